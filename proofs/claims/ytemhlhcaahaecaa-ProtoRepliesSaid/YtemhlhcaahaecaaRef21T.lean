/-
  Package bailiwickref21: an answer is read.
-/
import Derived.Test.YtemhlhcaahaecaaRef21
namespace Go.Proofs.Ytemhlhcaahaecaa
open Go.RowKit
set_option linter.unusedVariables false
set_option linter.unusedSimpArgs false
theorem pt_ok {n k : Int} (rest : ByteArray) (h : putOk n k = true) : takeOk (Str (putL n k) ++ rest) k = true := by
  have h1 := pt_size h
  have h2 : 1 ≤ k ∧ k ≤ 8 := by unfold putOk at h; simp at h; omega
  unfold takeOk
  rw [ByteArray.size_append, Bool.and_eq_true, decide_eq_true_eq, decide_eq_true_eq]; omega
theorem tr_whole {b : ByteArray} (h : trOk b = true) : takeOk b 1 = true ∧ takeOk (takeR b 1) 4 = true ∧ takeOk (takeR (takeR b 1) 4) 1 = true ∧ ttOk (takeR (takeR (takeR b 1) 4) 1) = true := by
  unfold trOk at h
  rw [Bool.and_eq_true] at h
  obtain ⟨h1, h2⟩ := h
  have hb : replyB (trI b) (trC b) (trB b) = b := list_inj.1 (by simpa using h2)
  obtain ⟨a0, a1, a2, a3, a4⟩ := replyOk_in h1
  generalize trI b = id at *
  generalize trC b = code at *
  generalize trB b = body at *
  have p0 : putOk 1 1 = true := by decide
  have e0 : (⟨#[1]⟩ : ByteArray) = Str (putL 1 1) := by decide +kernel
  have p1 : putOk id 4 = true := putOk_of a0 (by decide) (by decide) (by show _ < 4294967296; omega)
  have p2 : putOk code 1 = true := putOk_of a2 (by decide) (by decide) (by show _ < 256; omega)
  have e : b = Str (putL 1 1) ++ (Str (putL id 4) ++ (Str (putL code 1) ++ (textL body ++ ⟨#[]⟩))) := by
    rw [← hb]; unfold replyB; rw [e0, append_empty]; simp only [ByteArray.append_assoc]
  have q0 := fun rest => pt_n (n := 1) (k := 1) rest (by decide) p0
  have q1 := fun rest => pt_n (n := id) (k := 4) rest a0 p1
  have q2 := fun rest => pt_n (n := code) (k := 1) rest a2 p2
  rw [e, (q0 _).2, (q1 _).2, (q2 _).2]
  exact ⟨pt_ok _ p0, pt_ok _ p1, pt_ok _ p2, ttOk_text body _ (by omega)⟩
set_option maxHeartbeats 1600000 in
theorem refTakeReply_walk (b b1 b2 b3 b4 u body : ByteArray) (v0 id code : Int) (k0 k1 k2 k3 ok same bad : Bool) (w : World) (hs : b3.size ≤ 9223372036854775807)
    (h0 : Hid (takeN b 1 = v0)) (h1 : Hid (takeR b 1 = b1)) (h2 : Hid (takeN b1 4 = id)) (h3 : Hid (takeR b1 4 = b2)) (h4 : Hid (takeN b2 1 = code)) (h5 : Hid (takeR b2 1 = b3)) (h6 : Hid (ttS b3 = body)) (h7 : Hid (ttR b3 = b4))
    (g0 : Hid (takeOk b 1 = k0)) (g1 : Hid (takeOk b1 4 = k1)) (g2 : Hid (takeOk b2 1 = k2)) (g3 : Hid (ttOk b3 = k3)) (hbad : (((!k0 || !k1) || !k2) || !k3) = bad)
    (hok : Hid (replyOk id code body = ok)) (hu : Hid (replyP id code body = u)) (hsame : (u.toList == b.toList) = same) :
    Calls Try.prog 13 #[.string b] w fun e w' => e = .returned (if (!bad && (ok && same)) = true then .tuple #[.int .i64 id, .int .i64 code, .string body, .bool true] else .tuple #[.int .i64 0, .int .i64 0, .string ⟨#[]⟩, .bool false]) ∧ Below w.heap.size w w' := by
  have HS := Lib.hid hsame
  have HB := Lib.hid hbad
  clear hsame hbad
  go_enter Try.func13, Try.ntmps13
  go_wp2_with fail
  refine (pnum_is w.heap.size b b1 1 v0 false k0 (!k0) _ (heap_alloc_new _ _) (by decide) (by decide) h0 h1 g0 rfl).mono ?_
  rintro e w1 ⟨rfl, f1, c1⟩
  have F := Lib.hid f1
  have B : Hid (Below w.heap.size w w1) := Lib.hid (((Below.refl _ _).alloc (Nat.le_refl _) _).trans c1)
  clear f1 c1
  go_wp2_with fail
  refine (pnum_is w.heap.size b1 b2 4 id (!k0) k1 (!k0 || !k1) _ F.out (by decide) (by decide) h2 h3 g1 rfl).mono ?_
  rintro e w2 ⟨rfl, f1, c1⟩
  replace F := Lib.hid f1
  replace B := Lib.hid (B.out.trans c1)
  clear f1 c1
  go_wp2_with fail
  refine (pnum_is w.heap.size b2 b3 1 code (!k0 || !k1) k2 ((!k0 || !k1) || !k2) _ F.out (by decide) (by decide) h4 h5 g2 rfl).mono ?_
  rintro e w3 ⟨rfl, f1, c1⟩
  replace F := Lib.hid f1
  replace B := Lib.hid (B.out.trans c1)
  clear f1 c1
  go_wp2_with fail
  refine (ptxt_is w.heap.size b3 body b4 ((!k0 || !k1) || !k2) k3 bad _ F.out hs h6 h7 g3 HB.out).mono ?_
  rintro e w4 ⟨rfl, f1, c1⟩
  replace F := Lib.hid f1
  replace B := Lib.hid (B.out.trans c1)
  clear f1 c1
  go_wp2_with fail
  refine (refReply_any id code body _).mono ?_
  rw [hok.out, hu.out]
  rintro e w5 ⟨rfl, c1⟩
  replace F := Lib.hid (F.out.below c1)
  replace B := Lib.hid (chain B.out c1)
  clear c1
  obtain ⟨_, d1, _⟩ := F.out.cells
  have hs := HS.out
  cases bad
  · cases ok
    · go_wp2_with fail
      exact bodyPost_ret (v := .tuple #[.int .i64 0, .int .i64 0, .string ⟨#[]⟩, .bool false]) (by simp [results, Try.results13]) rfl ⟨rfl, B.out⟩
    · cases same
      · go_wp2_with fail
        exact bodyPost_ret (v := .tuple #[.int .i64 0, .int .i64 0, .string ⟨#[]⟩, .bool false]) (by simp [results, Try.results13]) rfl ⟨rfl, B.out⟩
      · go_wp2_with fail
        exact bodyPost_ret (v := .tuple #[.int .i64 id, .int .i64 code, .string body, .bool true]) (by simp [results, Try.results13]) rfl ⟨rfl, B.out⟩
  · go_wp2_with fail
    exact bodyPost_ret (v := .tuple #[.int .i64 0, .int .i64 0, .string ⟨#[]⟩, .bool false]) (by simp [results, Try.results13]) rfl ⟨rfl, B.out⟩
theorem refTakeReply_yes (b : ByteArray) (w : World) (hs : b.size ≤ 9223372036854775807) (h : trOk b = true) :
    Calls Try.prog 13 #[.string b] w fun e w' => e = .returned (.tuple #[.int .i64 (trI b), .int .i64 (trC b), .string (trB b), .bool true]) ∧ Below w.heap.size w w' := by
  have h' := h
  unfold trOk at h'
  rw [Bool.and_eq_true] at h'
  obtain ⟨g0, g1, g2, g3⟩ := tr_whole h
  have hz : (takeR (takeR (takeR b 1) 4) 1).size ≤ 9223372036854775807 := Nat.le_trans (takeR_size2 _ _) (Nat.le_trans (takeR_size2 _ _) (Nat.le_trans (takeR_size2 _ _) hs))
  have := refTakeReply_walk b (takeR b 1) (takeR (takeR b 1) 4) (takeR (takeR (takeR b 1) 4) 1) (ttR (takeR (takeR (takeR b 1) 4) 1)) (replyB (trI b) (trC b) (trB b)) (trB b) (takeN b 1) (trI b) (trC b) true true true true true true false w hz
    (Lib.hid rfl) (Lib.hid rfl) (Lib.hid rfl) (Lib.hid rfl) (Lib.hid rfl) (Lib.hid rfl) (Lib.hid rfl) (Lib.hid rfl) (Lib.hid g0) (Lib.hid g1) (Lib.hid g2) (Lib.hid g3) rfl (Lib.hid h'.1) (Lib.hid (replyP_yes h'.1)) h'.2
  exact this
theorem refTakeReply_no (b : ByteArray) (w : World) (hs : b.size ≤ 9223372036854775807) (h : trOk b = false) :
    Calls Try.prog 13 #[.string b] w fun e w' => e = .returned (.tuple #[.int .i64 0, .int .i64 0, .string ⟨#[]⟩, .bool false]) ∧ Below w.heap.size w w' := by
  have hz : (takeR (takeR (takeR b 1) 4) 1).size ≤ 9223372036854775807 := Nat.le_trans (takeR_size2 _ _) (Nat.le_trans (takeR_size2 _ _) (Nat.le_trans (takeR_size2 _ _) hs))
  have := refTakeReply_walk b (takeR b 1) (takeR (takeR b 1) 4) (takeR (takeR (takeR b 1) 4) 1) (ttR (takeR (takeR (takeR b 1) 4) 1)) (replyP (trI b) (trC b) (trB b)) (trB b) (takeN b 1) (trI b) (trC b) _ _ _ _ (replyOk (trI b) (trC b) (trB b)) _ _ w hz
    (Lib.hid rfl) (Lib.hid rfl) (Lib.hid rfl) (Lib.hid rfl) (Lib.hid rfl) (Lib.hid rfl) (Lib.hid rfl) (Lib.hid rfl) (Lib.hid rfl) (Lib.hid rfl) (Lib.hid rfl) (Lib.hid rfl) rfl (Lib.hid rfl) (Lib.hid rfl) rfl
  have hk : (replyOk (trI b) (trC b) (trB b) && ((replyP (trI b) (trC b) (trB b)).toList == b.toList)) = false := by
    cases h1 : replyOk (trI b) (trC b) (trB b)
    · rfl
    · rw [replyP_yes h1]
      unfold trOk at h
      rw [h1] at h
      exact h
  rw [hk, Bool.and_false] at this
  simpa only [Bool.false_eq_true, if_false] using this
end Go.Proofs.Ytemhlhcaahaecaa
