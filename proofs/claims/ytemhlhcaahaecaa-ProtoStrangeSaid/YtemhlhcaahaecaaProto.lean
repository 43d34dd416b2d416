/-
  Package proto: numbers and texts, answers that are written and read.
-/
import Derived.Test.YtemhlhcaahaecaaTakePut
import Derived.Lib.SmallJoins
import Derived.Outline
namespace Go.Proofs.Ytemhlhcaahaecaa
open Go.RowKit
set_option linter.unusedVariables false
set_option linter.unusedSimpArgs false
/-- A block that a call does not reach. -/
theorem kept {w w' : World} {g : Nat} {o : Obj} (h : w.heap[g]? = some o) (b : Below w.heap.size w w') : w'.heap[g]? = some o := by
  rw [b.block g (Array.getElem?_eq_some_iff.1 h).1]; exact h
theorem kept1 {w w' : World} {o : Obj} (b : Below (w.alloc o).heap.size (w.alloc o) w') : w'.heap[w.heap.size]? = some o := kept (heap_alloc_new w o) b
theorem chain1 {w a b : World} {o : Obj} (h : Below w.heap.size w a) (k : Below (a.alloc o).heap.size (a.alloc o) b) : Below w.heap.size w b := chain (h.alloc h.size o) (by exact k)
set_option maxHeartbeats 400000 in
theorem pnumber_is (n size : Int) (x : ByteArray) (w : World) (h0 : 0 ≤ n) (h1 : n ≤ 9223372036854775807) (hx : Str (putL n size) = x) :
    Calls Try.prog 21 #[.int .i64 n, .int .i64 size] w fun e w' => e = .returned (.string x) ∧ Below w.heap.size w w' := by
  subst hx
  go_enter Try.func21, Try.ntmps21
  go_wp2_with fail
  refine (put_any _ _ _ (by omega)).mono ?_
  rintro e w1 ⟨rfl, b1⟩
  go_wp2_with fail
  go_ret
  exact ⟨rfl, b1⟩
set_option maxHeartbeats 400000 in
theorem ptext_is (s x : ByteArray) (w : World) (hx : textL s = x) :
    Calls Try.prog 22 #[.string s] w fun e w' => e = .returned (.string x) ∧ Below w.heap.size w w' := by
  subst hx
  go_enter Try.func22, Try.ntmps22
  go_wp2_with fail
  refine (text_any _ _).mono ?_
  rintro e w1 ⟨rfl, b1⟩
  go_wp2_with fail
  go_ret
  exact ⟨rfl, b1⟩
def askOk (id : Int) : Bool := decide (0 ≤ id) && decide (id ≤ 4294967295)
theorem askOk_iff {id : Int} : askOk id = true ↔ 0 ≤ id ∧ id ≤ 4294967295 := by simp [askOk]
set_option maxHeartbeats 400000 in
theorem askRight_is (id : Int) (v : Bool) (w : World) (hv : askOk id = v) :
    Calls Try.prog 20 #[.int .i64 id] w fun e w' => e = .returned (.bool v) ∧ w = w' := by
  have H := Lib.hid hv
  clear hv
  by_cases h : 0 ≤ id
  all_goals
    go_enter Try.func20, Try.ntmps20
    go_wp2
    go_ret
    refine ⟨?_, rfl⟩
    rw [← H.out]
    exact ret_bool (by rw [Bool.eq_iff_iff]; simp [askOk]; omega)
def replyOk (id code : Int) (body : ByteArray) : Bool := askOk id && (decide (0 ≤ code) && (decide (code ≤ 255) && decide (body.size ≤ 100)))
def replyB (id code : Int) (body : ByteArray) : ByteArray := ⟨#[1]⟩ ++ Str (putL id 4) ++ Str (putL code 1) ++ textL body
theorem textL_size2 (s : ByteArray) : (textL s).size ≤ 256 := by
  unfold textL; split
  · rw [Str_size]; simp; omega
  · decide
theorem putL_size (n size : Int) (h : size ≤ 8) : (Str (putL n size)).size ≤ 8 := by
  rw [Str_size]; unfold putL; split
  · rw [M.be_length]; omega
  · simp
set_option maxHeartbeats 800000 in
theorem reply_no (id code : Int) (body : ByteArray) (w : World) (hk : replyOk id code body = false) :
    Calls Try.prog 10 #[.int .i64 id, .int .i64 code, .string body] w fun e w' => e = .returned (.tuple #[.string ⟨#[]⟩, .int .i64 1]) ∧ w = w' := by
  have hc : askOk id = false ∨ (askOk id = true ∧ code < 0) ∨ (askOk id = true ∧ ¬ code < 0 ∧ 255 < code) ∨ (askOk id = true ∧ ¬ code < 0 ∧ ¬ 255 < code ∧ 100 < (body.size : Int)) := by
    unfold replyOk at hk
    cases h : askOk id
    · exact .inl rfl
    · right
      rw [h, Bool.true_and] at hk
      simp only [Bool.and_eq_false_iff, decide_eq_false_iff_not] at hk
      rcases hk with hk | hk | hk
      · exact .inl ⟨rfl, by omega⟩
      · by_cases h0 : code < 0
        · exact .inl ⟨rfl, h0⟩
        · exact .inr (.inl ⟨rfl, h0, by omega⟩)
      · by_cases h0 : code < 0
        · exact .inl ⟨rfl, h0⟩
        · by_cases h1 : 255 < code
          · exact .inr (.inl ⟨rfl, h0, h1⟩)
          · exact .inr (.inr ⟨rfl, h0, h1, by omega⟩)
  clear hk
  rcases hc with h0 | ⟨h0, h1⟩ | ⟨h0, h1, h2⟩ | ⟨h0, h1, h2, h3⟩
  all_goals
    have H0 := Lib.hid h0
    clear h0
    go_enter Try.func10, Try.ntmps10
    go_wp2_with fail
    refine (askRight_is _ _ _ H0.out).mono ?_
    rintro e w1 ⟨rfl, rfl⟩
    go_wp2_with fail
    go_ret2
    exact ⟨rfl, rfl⟩
set_option maxHeartbeats 800000 in
theorem reply_yes (id code : Int) (body x y z : ByteArray) (w : World) (hk : replyOk id code body = true) (hx : Hid (Str (putL id 4) = x)) (hy : Hid (Str (putL code 1) = y)) (hz : Hid (textL body = z)) (sx : x.size ≤ 8) (sy : y.size ≤ 8) (sz : z.size ≤ 256) :
    Calls Try.prog 10 #[.int .i64 id, .int .i64 code, .string body] w fun e w' => e = .returned (.tuple #[.string (⟨#[1]⟩ ++ x ++ y ++ z), .int .i64 0]) ∧ Below w.heap.size w w' := by
  unfold replyOk at hk
  simp only [Bool.and_eq_true, decide_eq_true_eq] at hk
  obtain ⟨h0, h1, h2, h3⟩ := hk
  have hi := askOk_iff.1 h0
  have H0 := Lib.hid h0
  clear h0
  have h1' : ¬ code < 0 := by omega
  have h2' : ¬ 255 < code := by omega
  have h3' : ¬ 100 < (body.size : Int) := by omega
  have s0 : (⟨#[1]⟩ : ByteArray).size = 1 := by decide
  go_enter Try.func10, Try.ntmps10
  go_wp2_with fail
  refine (askRight_is _ _ _ H0.out).mono ?_
  rintro e w1 ⟨rfl, rfl⟩
  go_wp2_with fail
  refine (pnumber_is _ _ _ _ (by omega) (by omega) hx.out).mono ?_
  rintro e w2 ⟨rfl, b2⟩
  go_wp2_with fail
  refine (pnumber_is _ _ _ _ (by omega) (by omega) hy.out).mono ?_
  rintro e w3 ⟨rfl, b3⟩
  go_wp2_with fail
  refine (ptext_is _ _ _ hz.out).mono ?_
  rintro e w4 ⟨rfl, b4⟩
  go_wp2_with fail
  go_ret2
  exact ⟨rfl, chain (chain b2 b3) b4⟩
/-- What Reply writes. -/
def replyP (id code : Int) (body : ByteArray) : ByteArray := if replyOk id code body = true then replyB id code body else ⟨#[]⟩
def okP (b : Bool) (n : Int) : Int := if b = true then 0 else n
theorem reply_any (id code : Int) (body : ByteArray) (w : World) :
    Calls Try.prog 10 #[.int .i64 id, .int .i64 code, .string body] w fun e w' => e = .returned (.tuple #[.string (replyP id code body), .int .i64 (okP (replyOk id code body) 1)]) ∧ Below w.heap.size w w' := by
  cases h : replyOk id code body
  · refine (reply_no id code body w h).mono ?_
    rintro e w' ⟨rfl, rfl⟩
    exact ⟨by simp [replyP, okP, h], Below.refl _ _⟩
  · have := reply_yes id code body _ _ _ w h (Lib.hid rfl) (Lib.hid rfl) (Lib.hid rfl) (putL_size _ _ (by omega)) (putL_size _ _ (by omega)) (textL_size2 _)
    simpa only [replyP, replyB, okP, h, if_true] using this
/-- The block of a reader. -/
def RD (w : World) (g : Nat) (s : ByteArray) : Prop := w.heap[g]? = some (.cells #[.string s] 76)
theorem RD.lt {w : World} {g : Nat} {s : ByteArray} (h : RD w g s) : g < w.heap.size := (Array.getElem?_eq_some_iff.1 h).1
theorem RD.below {w w' : World} {g : Nat} {s : ByteArray} (h : RD w g s) (b : Below w.heap.size w w') : RD w' g s := kept h b
theorem RD.set {w : World} {g : Nat} {s : ByteArray} (h : RD w g s) (t : ByteArray) : RD (w.setCell ⟨g, 0, none⟩ (.string t)) g t := by
  have := Go.Joins.block_setCell (i := 0) h (.string t)
  simpa [RD] using this
theorem takeN_in (s : ByteArray) (size : Int) (h : size ≤ 4) : 0 ≤ takeN s size ∧ takeN s size ≤ 4294967295 := by
  unfold takeN
  split
  · have hl := M.val_lt (s.data.toList.take size.toNat)
    have : (s.data.toList.take size.toNat).length ≤ 4 := by rw [List.length_take]; omega
    have hp : 256 ^ (s.data.toList.take size.toNat).length ≤ 256 ^ 4 := Nat.pow_le_pow_right (by decide) this
    have : M.val (s.data.toList.take size.toNat) < 256 ^ 4 := Nat.lt_of_lt_of_le hl hp
    omega
  · omega
set_option maxHeartbeats 400000 in
theorem rnumber_is (g : Nat) (s : ByteArray) (size v : Int) (r : ByteArray) (w : World) (h : RD w g s) (hz : size ≤ 4) (hv : Hid (takeN s size = v)) (hr : Hid (takeR s size = r)) :
    Calls Try.prog 26 #[.pointer (some ⟨g, 0, none⟩), .int .i64 size] w fun e w' => e = .returned (.int .i64 v) ∧ RD w' g r ∧ Below g w w' := by
  have hin := takeN_in s size hz
  rw [hv.out] at hin
  have c0 : w.cell? ⟨g, 0, none⟩ = some (.string s) := by rw [Go.Joins.cell_of_block h]; rfl
  have H := Lib.hid h
  clear h
  go_enter Try.func26, Try.ntmps26
  go_wp2_with fail
  refine (take_any _ _ _).mono ?_
  rw [hv.out, hr.out]
  rintro e w1 ⟨rfl, b1⟩
  have H1 := Lib.hid (H.out.below b1)
  have c1 : w1.cell? ⟨g, 0, none⟩ = some (.string s) := by rw [Go.Joins.cell_of_block H1.out]; rfl
  have f1 : w1.frozen? ⟨g, 0, none⟩ = false := Go.Joins.unfrozen_of_block H1.out 0
  have hb := b1.mono (Nat.le_of_lt H.out.lt)
  clear b1
  go_wp2_with fail
  go_ret
  exact ⟨rfl, H1.out.set _, hb.setCell (Nat.le_refl _) _⟩
set_option maxHeartbeats 400000 in
theorem rtext_is (g : Nat) (s v r : ByteArray) (w : World) (h : RD w g s) (hs : s.size ≤ 9223372036854775807) (hv : Hid (ttS s = v)) (hr : Hid (ttR s = r)) :
    Calls Try.prog 27 #[.pointer (some ⟨g, 0, none⟩)] w fun e w' => e = .returned (.string v) ∧ RD w' g r ∧ Below g w w' := by
  have c0 : w.cell? ⟨g, 0, none⟩ = some (.string s) := by rw [Go.Joins.cell_of_block h]; rfl
  have H := Lib.hid h
  clear h
  go_enter Try.func27, Try.ntmps27
  go_wp2_with fail
  refine (takeText_any _ _ hs).mono ?_
  rw [hv.out, hr.out]
  rintro e w1 ⟨rfl, b1⟩
  have H1 := Lib.hid (H.out.below b1)
  have c1 : w1.cell? ⟨g, 0, none⟩ = some (.string s) := by rw [Go.Joins.cell_of_block H1.out]; rfl
  have f1 : w1.frozen? ⟨g, 0, none⟩ = false := Go.Joins.unfrozen_of_block H1.out 0
  have hb := b1.mono (Nat.le_of_lt H.out.lt)
  clear b1
  go_wp2_with fail
  go_ret
  exact ⟨rfl, H1.out.set _, hb.setCell (Nat.le_refl _) _⟩
/-- What TakeReply reads. -/
def trI (b : ByteArray) : Int := takeN (takeR b 1) 4
def trC (b : ByteArray) : Int := takeN (takeR (takeR b 1) 4) 1
def trB (b : ByteArray) : ByteArray := ttS (takeR (takeR (takeR b 1) 4) 1)
def trOk (b : ByteArray) : Bool := replyOk (trI b) (trC b) (trB b) && ((replyB (trI b) (trC b) (trB b)).toList == b.toList)
theorem takeR_size2 (s : ByteArray) (n : Int) : (takeR s n).size ≤ s.size := by
  unfold takeR; split
  · rw [ByteArray.size_extract]; omega
  · exact Nat.zero_le _
set_option maxHeartbeats 1600000 in
theorem takeReply_walk (b b1 b2 b3 b4 u body : ByteArray) (v0 id code : Int) (ok same : Bool) (w : World) (hs : b3.size ≤ 9223372036854775807)
    (h0 : Hid (takeN b 1 = v0)) (h1 : Hid (takeR b 1 = b1)) (h2 : Hid (takeN b1 4 = id)) (h3 : Hid (takeR b1 4 = b2)) (h4 : Hid (takeN b2 1 = code)) (h5 : Hid (takeR b2 1 = b3)) (h6 : Hid (ttS b3 = body)) (h7 : Hid (ttR b3 = b4))
    (hok : Hid (replyOk id code body = ok)) (hu : Hid (replyP id code body = u)) (hsame : (u.toList == b.toList) = same) :
    Calls Try.prog 12 #[.string b] w fun e w' => e = .returned (if (ok && same) = true then .tuple #[.int .i64 id, .int .i64 code, .string body, .int .i64 0] else .tuple #[.int .i64 0, .int .i64 0, .string ⟨#[]⟩, .int .i64 2]) ∧ Below w.heap.size w w' := by
  have HS := Lib.hid hsame
  clear hsame
  go_enter Try.func12, Try.ntmps12
  go_wp2_with fail
  refine (rnumber_is w.heap.size b 1 v0 b1 _ (heap_alloc_new _ _) (by decide) h0 h1).mono ?_
  rintro e w1 ⟨rfl, f1, c1⟩
  have F := Lib.hid f1
  have B : Hid (Below w.heap.size w w1) := Lib.hid (((Below.refl _ _).alloc (Nat.le_refl _) _).trans c1)
  clear f1 c1
  go_wp2_with fail
  refine (rnumber_is w.heap.size b1 4 id b2 _ F.out (by decide) h2 h3).mono ?_
  rintro e w2 ⟨rfl, f1, c1⟩
  replace F := Lib.hid f1
  replace B := Lib.hid (B.out.trans c1)
  clear f1 c1
  go_wp2_with fail
  refine (rnumber_is w.heap.size b2 1 code b3 _ F.out (by decide) h4 h5).mono ?_
  rintro e w3 ⟨rfl, f1, c1⟩
  replace F := Lib.hid f1
  replace B := Lib.hid (B.out.trans c1)
  clear f1 c1
  go_wp2_with fail
  refine (rtext_is w.heap.size b3 body b4 _ F.out hs h6 h7).mono ?_
  rintro e w4 ⟨rfl, f1, c1⟩
  replace F := Lib.hid f1
  replace B := Lib.hid (B.out.trans c1)
  clear f1 c1
  go_wp2_with fail
  refine (reply_any id code body _).mono ?_
  rw [hok.out, hu.out]
  rintro e w5 ⟨rfl, c1⟩
  replace B := Lib.hid (chain B.out c1)
  clear c1
  have hs := HS.out
  cases ok
  · simp only [okP, Bool.false_eq_true, if_false, Bool.false_and]
    go_wp2_with fail
    exact bodyPost_ret (v := .tuple #[.int .i64 0, .int .i64 0, .string ⟨#[]⟩, .int .i64 2]) (by simp [results, Try.results12]) rfl ⟨rfl, B.out⟩
  · simp only [okP, if_true, Bool.true_and]
    cases same
    · try simp only [Bool.false_eq_true, if_false]
      go_wp2_with fail
      exact bodyPost_ret (v := .tuple #[.int .i64 0, .int .i64 0, .string ⟨#[]⟩, .int .i64 2]) (by simp [results, Try.results12]) rfl ⟨rfl, B.out⟩
    · try simp only [if_true]
      go_wp2_with fail
      exact bodyPost_ret (v := .tuple #[.int .i64 id, .int .i64 code, .string body, .int .i64 0]) (by simp [results, Try.results12]) rfl ⟨rfl, B.out⟩
end Go.Proofs.Ytemhlhcaahaecaa
