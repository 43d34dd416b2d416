/-
  A page written and read: our disk beside the document's own.
-/
import Derived.Test.YtojofakfnlofhaaDoorRkN
import Derived.Test.YtojofakfnlofhaaDoorRef07
namespace Go.Proofs.YtojofakfnlofhaaDoor
open Go.RowKit
set_option linter.unusedVariables false
set_option linter.unusedSimpArgs false
/-- A disk all of whose blocks were made behind w0, and none of which is one of R. -/
def DkG (w0 w : World) (R : Nat → Prop) (d : Nat) (st : DkS) : Prop := ∃ F, Dk w d st F ∧ Below w0.heap.size w0 w ∧ (∀ k, F k → w0.heap.size ≤ k) ∧ ∀ k, R k → ¬ F k ∧ k < w.heap.size
def KeptR (R : Nat → Prop) (w w' : World) : Prop := ∀ k, R k → w'.heap[k]? = w.heap[k]?
theorem KeptR.trans {R : Nat → Prop} {a b c : World} (h : KeptR R a b) (k : KeptR R b c) : KeptR R a c := fun i hi => (k i hi).trans (h i hi)
theorem DkG.below {w0 w : World} {R : Nat → Prop} {d : Nat} {st : DkS} (h : DkG w0 w R d st) : Below w0.heap.size w0 w := h.choose_spec.2.1
theorem DkG.step {w0 w w' : World} {R : Nat → Prop} {d : Nat} {st : DkS} (h : DkG w0 w R d st) (hb : Below w.heap.size w w') : DkG w0 w' R d st ∧ KeptR R w w' := by
  obtain ⟨F, hd, hw, hF, hR⟩ := h
  exact ⟨⟨F, hd.below hb, chain hw hb, hF, fun k hk => ⟨(hR k hk).1, Nat.lt_of_lt_of_le (hR k hk).2 hb.size⟩⟩, fun k hk => hb.block k (hR k hk).2⟩
theorem DkG.post {w0 w w' : World} {R : Nat → Prop} {d : Nat} {st' : DkS} {F : Nat → Prop} (hw : Below w0.heap.size w0 w) (hF : ∀ k, F k → w0.heap.size ≤ k) (hR : ∀ k, R k → ¬ F k ∧ k < w.heap.size) (hp : DkPost w d st' F w') : DkG w0 w' R d st' ∧ KeptR R w w' := by
  obtain ⟨F', hd, hf, hs⟩ := hp
  refine ⟨⟨F', hd, hw.trans (hf.below (fun k hk => hF k hk) hw.size), fun k hk => ?_, fun k hk => ⟨fun hx => ?_, Nat.lt_of_lt_of_le (hR k hk).2 hf.size⟩⟩, fun k hk => hf.block k (hR k hk).2 (hR k hk).1⟩
  · rcases hs k hk with hx | hx
    · exact hF k hx
    · exact Nat.le_trans hw.size hx
  · rcases hs k hx with h1 | h1
    · exact (hR k hk).1 h1
    · have := (hR k hk).2; omega
theorem write_G {w0 w : World} {R : Nat → Prop} {d : Nat} {st : DkS} (h : DkG w0 w R d st) (i : Int) (s : ByteArray) :
    Calls Tryd.prog 17 #[.pointer (some ⟨d, 0, none⟩), .int .i64 i, .string s] w fun e w' => e = .returned (.int .i64 (st.write i s.data.toList).2) ∧ DkG w0 w' R d (st.write i s.data.toList).1 ∧ KeptR R w w' := by
  obtain ⟨F, hd, hw, hF, hR⟩ := h
  exact (write_any w d st F hd i s).mono fun e w' hp => ⟨hp.1, DkG.post hw hF hR hp.2⟩
theorem read_G {w0 w : World} {R : Nat → Prop} {d : Nat} {st : DkS} (h : DkG w0 w R d st) (i : Int) :
    Calls Tryd.prog 29 #[.pointer (some ⟨d, 0, none⟩), .int .i64 i] w fun e w' => e = .returned (.tuple #[.string (Str (st.read i).1), .int .i64 (st.read i).2]) ∧ w = w' := by
  obtain ⟨F, hd, hw, hF, hR⟩ := h
  exact read_any w d st F hd i
theorem DkG.turn {w0 w w' : World} {R R' G : Nat → Prop} {d : Nat} {st : DkS} (h : DkG w0 w R d st) (hf : Frm G w w') (hG : ∀ k, G k → R k ∧ w0.heap.size ≤ k) (hR' : ∀ k, R' k → R k ∨ (w.heap.size ≤ k ∧ k < w'.heap.size)) : DkG w0 w' R' d st := by
  obtain ⟨F, hd, hw, hF, hR⟩ := h
  refine ⟨F, hd.frm hf fun k hk e => (hR k (hG k e).1).1 hk, hw.trans (hf.below (fun k hk => (hG k hk).2) hw.size), hF, fun k hk => ?_⟩
  rcases hR' k hk with h1 | ⟨h1, h2⟩
  · exact ⟨(hR k h1).1, Nat.lt_of_lt_of_le (hR k h1).2 hf.size⟩
  · exact ⟨fun hx => by have := hd.lt _ hx; omega, h2⟩
theorem norm_mod (a : Int) (k : Nat) (hk : 0 < k) : ∃ f : Nat, f < k ∧ ((a < 0 ∧ -((a + 1).tmod (k : Int)) = (f : Int)) ∨ (0 ≤ a ∧ a % (k : Int) = (f : Int))) := by
  by_cases h0 : a < 0
  · refine ⟨((-(a + 1)) % (k : Int)).toNat, ?_, .inl ⟨h0, ?_⟩⟩
    · have := Int.emod_lt_of_pos (-(a + 1)) (show (0 : Int) < (k : Int) by omega)
      omega
    · have e : (a + 1).tmod (k : Int) = -((-(a + 1)).tmod (k : Int)) := by rw [Int.neg_tmod, Int.neg_neg]
      rw [e, Int.tmod_eq_emod_of_nonneg (by omega)]
      have := Int.emod_nonneg (-(a + 1)) (show (k : Int) ≠ 0 by omega)
      omega
  · refine ⟨(a % (k : Int)).toNat, ?_, .inr ⟨by omega, ?_⟩⟩
    · have := Int.emod_lt_of_pos a (show (0 : Int) < (k : Int) by omega)
      omega
    · have := Int.emod_nonneg a (show (k : Int) ≠ 0 by omega)
      omega
theorem i64_range (a : Int) (v : (Lit.int .i64 a).wf = true) : -9223372036854775808 ≤ a ∧ a ≤ 9223372036854775807 := by
  simp only [Lit.wf, Bool.and_eq_true, decide_eq_true_eq] at v
  exact v
theorem ptr_nil (a : Addr) (w : World) : (binOp .eql 35 (.pointer (some a)) (.pointer none)).run Tryd.prog w = .ok (.bool false) w := by kernel_rfl
/-- Both disks, each in blocks of its own. -/
def Pair (w0 w : World) (d x : Nat) (st sx : DkS) : Prop := ∃ FX, Rk w x sx FX ∧ DkG w0 w FX d st ∧ ∀ k, FX k → w0.heap.size ≤ k
theorem Rk.kept {w w' : World} {x : Nat} {st : DkS} {F : Nat → Prop} (h : Rk w x st F) (hk : KeptR F w w') : Rk w' x st F := by
  obtain ⟨vs, vl, hi, he⟩ := h
  exact ⟨vs, vl, hi.kept fun k hF => hk k ((he k).2 hF), he⟩
theorem Rk.lt {w : World} {x : Nat} {st : DkS} {F : Nat → Prop} (h : Rk w x st F) (k : Nat) (hk : F k) : k < w.heap.size := by
  obtain ⟨vs, vl, hi, he⟩ := h
  exact hi.lt k ((he k).1 hk)
theorem Pair.below {w0 w : World} {d x : Nat} {st sx : DkS} (h : Pair w0 w d x st sx) : Below w0.heap.size w0 w := h.choose_spec.2.1.below
theorem Pair.step {w0 w w' : World} {d x : Nat} {st sx : DkS} (h : Pair w0 w d x st sx) (hb : Below w.heap.size w w') : Pair w0 w' d x st sx := by
  obtain ⟨FX, h1, h2, h3⟩ := h
  exact ⟨FX, h1.kept (h2.step hb).2, (h2.step hb).1, h3⟩
theorem Pair.dwrite {w0 w : World} {d x : Nat} {st sx : DkS} (h : Pair w0 w d x st sx) (i : Int) (s : ByteArray) :
    Calls Tryd.prog 17 #[.pointer (some ⟨d, 0, none⟩), .int .i64 i, .string s] w fun e w' => e = .returned (.int .i64 (st.write i s.data.toList).2) ∧ Pair w0 w' d x (st.write i s.data.toList).1 sx := by
  obtain ⟨FX, h1, h2, h3⟩ := h
  exact (write_G h2 i s).mono fun e w' hp => ⟨hp.1, FX, h1.kept hp.2.2, hp.2.1, h3⟩
theorem Pair.dread {w0 w : World} {d x : Nat} {st sx : DkS} (h : Pair w0 w d x st sx) (i : Int) :
    Calls Tryd.prog 29 #[.pointer (some ⟨d, 0, none⟩), .int .i64 i] w fun e w' => e = .returned (.tuple #[.string (Str (st.read i).1), .int .i64 (st.read i).2]) ∧ w = w' := by
  obtain ⟨FX, h1, h2, h3⟩ := h
  exact read_G h2 i
theorem Pair.xwrite {w0 w : World} {d x : Nat} {st sx : DkS} (h : Pair w0 w d x st sx) (i : Int) (s : ByteArray) :
    Calls Tryd.prog 18 #[.pointer (some ⟨x, 0, none⟩), .int .i64 i, .string s] w fun e w' => e = .returned (.int .i64 (sx.write i s.data.toList).2) ∧ Pair w0 w' d x st (sx.write i s.data.toList).1 := by
  obtain ⟨FX, h1, h2, h3⟩ := h
  refine (refWrite_any w x sx FX h1 i s).mono fun e w' hp => ⟨hp.1, ?_⟩
  obtain ⟨FX', k1, k2, k3⟩ := hp.2
  refine ⟨FX', k1, h2.turn k2 (fun k hk => ⟨hk, h3 k hk⟩) (fun k hk => ?_), fun k hk => ?_⟩
  · rcases k3 k hk with h4 | h4
    · exact .inl h4
    · exact .inr ⟨h4, k1.lt k hk⟩
  · rcases k3 k hk with h4 | h4
    · exact h3 k h4
    · exact Nat.le_trans h2.below.size h4
theorem Pair.xread {w0 w : World} {d x : Nat} {st sx : DkS} (h : Pair w0 w d x st sx) (i : Int) :
    Calls Tryd.prog 30 #[.pointer (some ⟨x, 0, none⟩), .int .i64 i] w fun e w' => e = .returned (.tuple #[.string (Str (sx.read i).1), .int .i64 (sx.read i).2]) ∧ w = w' := by
  obtain ⟨FX, h1, h2, h3⟩ := h
  exact refRead_any w x sx FX h1 i
theorem Pair.made {w0 w w2 w3 : World} {st : DkS} {e e2 : Ending} (hw : Below w0.heap.size w0 w) (h : Made w st e w2) (h2 : RMade w2 st e2 w3) : ∃ d x, e = .returned (.tuple #[.pointer (some ⟨d, 0, none⟩), .int .i64 0]) ∧ e2 = .returned (.pointer (some ⟨x, 0, none⟩)) ∧ Pair w0 w3 d x st st := by
  obtain ⟨d, F, he, hd, hb, hF⟩ := h
  obtain ⟨x, FX, he2, hx, hb2, hFX⟩ := h2
  have hw2 := hw.size
  have hs := hb.size
  refine ⟨d, x, he, he2, FX, hx, ⟨F, hd.below hb2, chain (chain hw hb) hb2, fun k hk => by have := hF k hk; omega, fun k hk => ⟨fun hFk => ?_, hx.lt k hk⟩⟩, fun k hk => by have := hFX k hk; omega⟩
  have h1 := hFX k hk
  have h2 := hd.lt k hFk
  omega
/-- What page.Write does; what page.Read answers. -/
def pgWr (st : DkS) (n k : Int) (t : ByteArray) : DkS × Int := if sealB k t = true then st.write n (sealS k t).data.toList else (st, 1)
def rdK (st : DkS) (n : Int) : Int := if (st.read n).2 = 0 then (opK (st.read n).1 : Int) else 0
def rdT (st : DkS) (n : Int) : ByteArray := if (st.read n).2 = 0 then Str (opT (st.read n).1) else ⟨#[]⟩
def rdE (st : DkS) (n : Int) : Int := if (st.read n).2 = 0 then (opE (st.read n).1 : Int) else (st.read n).2
set_option maxHeartbeats 800000 in
theorem pgWrite_is {w0 w : World} {d x : Nat} {st sx : DkS} (h : Pair w0 w d x st sx) (n k : Int) (t : ByteArray) :
    Calls Tryd.prog 19 #[.pointer (some ⟨d, 0, none⟩), .int .i64 n, .int .i64 k, .string t] w fun e w' => e = .returned (.int .i64 (pgWr st n k t).2) ∧ Pair w0 w' d x (pgWr st n k t).1 sx := by
  have HP := Lib.hid h
  have S1 := Lib.hid (fun w => seal_any k t w)
  unfold pgWr
  unfold sealE at S1
  clear h
  cases hb : sealB k t
  · rw [hb] at S1
    rw [if_neg (by decide)]
    have S2 := Lib.hid (fun w => S1.out w)
    rw [if_neg (by decide)] at S2
    generalize sealS k t = S at S1 S2
    clear S1 hb
    go_enter Tryd.func19, Tryd.ntmps19
    go_wp2_with fail
    refine (S2.out _).mono ?_
    rintro e w1 ⟨rfl, b1⟩
    have HP1 := Lib.hid (HP.out.step b1)
    clear b1
    go_wp2_with fail
    go_ret
    exact ⟨rfl, HP1.out⟩
  · rw [hb] at S1
    rw [if_pos rfl]
    have S2 := Lib.hid (fun w => S1.out w)
    rw [if_pos rfl] at S2
    generalize sealS k t = S at S1 S2
    clear S1 hb
    go_enter Tryd.func19, Tryd.ntmps19
    go_wp2_with fail
    refine (S2.out _).mono ?_
    rintro e w1 ⟨rfl, b1⟩
    have HP1 := Lib.hid (HP.out.step b1)
    clear b1
    go_wp2_with fail
    refine (HP1.out.dwrite n S).mono ?_
    rintro e w2 ⟨rfl, h2⟩
    have HP2 := Lib.hid h2
    clear h2
    go_wp2_with fail
    go_ret
    exact ⟨rfl, HP2.out⟩
set_option maxHeartbeats 800000 in
theorem refPgWrite_is {w0 w : World} {d x : Nat} {st sx : DkS} (h : Pair w0 w d x st sx) (n k : Int) (t : ByteArray) :
    Calls Tryd.prog 20 #[.pointer (some ⟨x, 0, none⟩), .int .i64 n, .int .i64 k, .string t] w fun e w' => e = .returned (.int .i64 (pgWr sx n k t).2) ∧ Pair w0 w' d x st (pgWr sx n k t).1 := by
  have HP := Lib.hid h
  have S1 := Lib.hid (fun w => refSeal_any k t w)
  unfold pgWr
  clear h
  cases hb : sealB k t
  · rw [hb] at S1
    rw [if_neg (by decide)]
    generalize sealS k t = S at S1
    clear hb
    go_enter Tryd.func20, Tryd.ntmps20
    go_wp2_with fail
    refine (S1.out _).mono ?_
    rintro e w1 ⟨rfl, b1⟩
    have HP1 := Lib.hid (HP.out.step b1)
    clear b1
    go_wp2_with fail
    go_ret
    exact ⟨rfl, HP1.out⟩
  · rw [hb] at S1
    rw [if_pos rfl]
    generalize sealS k t = S at S1
    clear hb
    go_enter Tryd.func20, Tryd.ntmps20
    go_wp2_with fail
    refine (S1.out _).mono ?_
    rintro e w1 ⟨rfl, b1⟩
    have HP1 := Lib.hid (HP.out.step b1)
    clear b1
    go_wp2_with fail
    refine (HP1.out.xwrite n S).mono ?_
    rintro e w2 ⟨rfl, h2⟩
    have HP2 := Lib.hid h2
    clear h2
    go_wp2_with fail
    go_ret
    exact ⟨rfl, HP2.out⟩
set_option maxHeartbeats 800000 in
theorem pgRead_is {w0 w : World} {d x : Nat} {st sx : DkS} (h : Pair w0 w d x st sx) (n : Int) :
    Calls Tryd.prog 21 #[.pointer (some ⟨d, 0, none⟩), .int .i64 n] w fun e w' => e = .returned (.tuple #[.int .i64 (rdK st n), .string (rdT st n), .int .i64 (rdE st n)]) ∧ Pair w0 w' d x st sx := by
  have HP := Lib.hid h
  have R1 := Lib.hid (h.dread n)
  have O1 := Lib.hid (fun w => open_any (Str (st.read n).1) w)
  rw [Str_list] at O1
  unfold rdK rdT rdE
  clear h
  generalize Str (st.read n).1 = b at R1 O1
  generalize (st.read n).1 = l at O1 ⊢
  generalize (st.read n).2 = e0 at R1 ⊢
  by_cases h0 : e0 = 0
  · subst h0
    rw [if_pos rfl, if_pos rfl, if_pos rfl]
    generalize (opK l : Int) = K at O1 ⊢
    generalize Str (opT l) = T at O1 ⊢
    generalize (opE l : Int) = E at O1 ⊢
    go_enter Tryd.func21, Tryd.ntmps21
    go_wp2_with fail
    refine R1.out.mono ?_
    rintro e w1 ⟨rfl, rfl⟩
    go_wp2_with fail
    refine (O1.out _).mono ?_
    rintro e w2 ⟨rfl, b2⟩
    have HP2 := Lib.hid (HP.out.step b2)
    clear b2
    go_wp2_with fail
    go_ret3
    exact ⟨rfl, HP2.out⟩
  · rw [if_neg h0, if_neg h0, if_neg h0]
    have h1 : (e0 == 0) = false := by simpa using h0
    have h2 : (e0 != 0) = true := by simp [bne, h1]
    clear O1
    go_enter Tryd.func21, Tryd.ntmps21
    go_wp2_with fail
    refine R1.out.mono ?_
    rintro e w1 ⟨rfl, rfl⟩
    go_wp2_with fail
    go_ret3
    exact ⟨rfl, HP.out⟩
set_option maxHeartbeats 800000 in
theorem refPgRead_is {w0 w : World} {d x : Nat} {st sx : DkS} (h : Pair w0 w d x st sx) (n : Int) :
    Calls Tryd.prog 22 #[.pointer (some ⟨x, 0, none⟩), .int .i64 n] w fun e w' => e = .returned (.tuple #[.int .i64 (rdK sx n), .string (rdT sx n), .int .i64 (rdE sx n)]) ∧ Pair w0 w' d x st sx := by
  have HP := Lib.hid h
  have R1 := Lib.hid (h.xread n)
  have O1 := Lib.hid (fun w => refOpen_any (Str (sx.read n).1) w)
  rw [Str_list] at O1
  unfold rdK rdT rdE
  clear h
  generalize Str (sx.read n).1 = b at R1 O1
  generalize (sx.read n).1 = l at O1 ⊢
  generalize (sx.read n).2 = e0 at R1 ⊢
  by_cases h0 : e0 = 0
  · subst h0
    rw [if_pos rfl, if_pos rfl, if_pos rfl]
    generalize (opK l : Int) = K at O1 ⊢
    generalize Str (opT l) = T at O1 ⊢
    generalize (opE l : Int) = E at O1 ⊢
    go_enter Tryd.func22, Tryd.ntmps22
    go_wp2_with fail
    refine R1.out.mono ?_
    rintro e w1 ⟨rfl, rfl⟩
    go_wp2_with fail
    refine (O1.out _).mono ?_
    rintro e w2 ⟨rfl, b2⟩
    have HP2 := Lib.hid (HP.out.step b2)
    clear b2
    go_wp2_with fail
    go_ret3
    exact ⟨rfl, HP2.out⟩
  · rw [if_neg h0, if_neg h0, if_neg h0]
    have h1 : (e0 == 0) = false := by simpa using h0
    have h2 : (e0 != 0) = true := by simp [bne, h1]
    clear O1
    go_enter Tryd.func22, Tryd.ntmps22
    go_wp2_with fail
    refine R1.out.mono ?_
    rintro e w1 ⟨rfl, rfl⟩
    go_wp2_with fail
    go_ret3
    exact ⟨rfl, HP.out⟩
end Go.Proofs.YtojofakfnlofhaaDoor
