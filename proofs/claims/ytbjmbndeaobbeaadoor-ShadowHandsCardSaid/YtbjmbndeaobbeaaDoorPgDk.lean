/-
  Pages on a disk: page.Write, page.Read; Size.
-/
import Derived.Test.YtbjmbndeaobbeaaDoorDiskN
import Derived.Test.YtbjmbndeaobbeaaDoorPgOpen
import Derived.Test.YtbjmbndeaobbeaaDoorKept
namespace Go.Proofs.YtbjmbndeaobbeaaDoor
open Go.RowKit
set_option linter.unusedVariables false
set_option linter.unusedSimpArgs false
theorem sealB_iff (k : Int) (t : ByteArray) : sealB k t = true ↔ 1 ≤ k ∧ k ≤ 15 ∧ t.size ≤ 240 := by
  unfold sealB
  rw [Bool.and_eq_true, kindB_iff, decide_eq_true_eq, and_assoc]
theorem seal_any (k : Int) (t : ByteArray) (w : World) :
    Calls Tryd.prog 44 #[.int .i64 k, .string t] w fun e w' => e = .returned (.tuple #[.string (sealS k t), .int .i64 (sealE k t)]) ∧ Below w.heap.size w w' := by
  cases h : sealB k t
  · refine (seal_no k t w h).mono ?_
    rintro e w' ⟨rfl, rfl⟩
    exact ⟨by unfold sealS sealE; rw [h]; rfl, Below.refl _ _⟩
  · obtain ⟨h1, h2, h3⟩ := (sealB_iff k t).1 h
    obtain ⟨n, rfl⟩ := Int.eq_ofNat_of_zero_le (show 0 ≤ k by omega)
    refine (seal_yes n t w (by omega) (by omega) h3 _ (Lib.hid rfl)).mono ?_
    rintro e w' ⟨rfl, hb⟩
    exact ⟨by unfold sealS sealE; rw [h]; rfl, hb⟩
def pgWr (st : DkS) (n k : Int) (t : ByteArray) : DkS × Int := if sealB k t = true then st.write n (sealS k t).data.toList else (st, 1)
def rdK (st : DkS) (n : Int) : Int := if (st.read n).2 = 0 then (opK (st.read n).1 : Int) else 0
def rdT (st : DkS) (n : Int) : ByteArray := if (st.read n).2 = 0 then Str (opT (st.read n).1) else ⟨#[]⟩
def rdE (st : DkS) (n : Int) : Int := if (st.read n).2 = 0 then (opE (st.read n).1 : Int) else (st.read n).2
theorem DkPost.chain {w w1 w2 : World} {d : Nat} {st : DkS} {F : Nat → Prop} (b : Below w.heap.size w w1) (h : DkPost w1 d st F w2) : DkPost w d st F w2 :=
  DkPost.trans (st1 := st) (Frm.of_below b) (fun k hk => .inl hk) h
theorem DkPost.more {w w1 w2 : World} {d : Nat} {st : DkS} {F : Nat → Prop} (h : DkPost w d st F w1) (b : Below w1.heap.size w1 w2) : DkPost w d st F w2 := by
  obtain ⟨F', h1, h2, h3⟩ := h
  exact ⟨F', h1.below b, h2.trans (G := fun _ => False) (Frm.of_below b) (fun _ hx => hx.elim), h3⟩
set_option maxHeartbeats 400000 in
theorem dsize_is (w : World) (d : Nat) (st : DkS) (F : Nat → Prop) (h : Dk w d st F) :
    Calls Tryd.prog 42 #[.pointer (some ⟨d, 0, none⟩)] w fun e w' => e = .returned (.int .i64 (st.S.length : Int)) ∧ w = w' := by
  obtain ⟨g, m, lv, hi, he⟩ := h
  obtain ⟨c0, _, _, _, _⟩ := hi.cells
  clear he hi
  go_enter Tryd.func42, Tryd.ntmps42
  go_wp2_with fail
  go_ret
  exact ⟨rfl, rfl⟩
set_option maxHeartbeats 800000 in
set_option maxRecDepth 20000 in
theorem pageWrite_is (w : World) (d : Nat) (st : DkS) (F : Nat → Prop) (h : Dk w d st F) (n k : Int) (t : ByteArray) :
    Calls Tryd.prog 30 #[.pointer (some ⟨d, 0, none⟩), .int .i64 n, .int .i64 k, .string t] w fun e w' => e = .returned (.int .i64 (pgWr st n k t).2) ∧ DkPost w d (pgWr st n k t).1 F w' := by
  have HP := Lib.hid h
  have S1 := Lib.hid (fun w => seal_any k t w)
  unfold pgWr
  unfold sealE at S1
  clear h
  cases hb : sealB k t
  · rw [hb] at S1
    rw [if_neg (by decide)]
    have S2 := Lib.hid (fun w => S1.out w)
    rw [if_neg (by decide)] at S2
    generalize sealS k t = S at S1 S2
    clear S1 hb
    go_enter Tryd.func30, Tryd.ntmps30
    go_wp2_with fail
    refine (S2.out _).mono ?_
    rintro e w1 ⟨rfl, b1⟩
    have HP1 := Lib.hid (DkPost.below HP.out b1)
    clear b1
    go_wp2_with fail
    go_ret
    exact ⟨rfl, HP1.out⟩
  · rw [hb] at S1
    rw [if_pos rfl]
    have S2 := Lib.hid (fun w => S1.out w)
    rw [if_pos rfl] at S2
    generalize sealS k t = S at S1 S2
    clear S1 hb
    go_enter Tryd.func30, Tryd.ntmps30
    go_wp2_with fail
    refine (S2.out _).mono ?_
    rintro e w1 ⟨rfl, b1⟩
    have HP1 := Lib.hid (HP.out.below b1)
    have B1 := Lib.hid b1
    clear b1
    go_wp2_with fail
    refine (write_any w1 d st F HP1.out n S).mono ?_
    rintro e w2 ⟨rfl, h2⟩
    have HP2 := Lib.hid (DkPost.chain B1.out h2)
    clear h2
    go_wp2_with fail
    go_ret
    exact ⟨rfl, HP2.out⟩
set_option maxHeartbeats 800000 in
set_option maxRecDepth 20000 in
theorem pageRead_is (w : World) (d : Nat) (st : DkS) (F : Nat → Prop) (h : Dk w d st F) (n : Int) :
    Calls Tryd.prog 39 #[.pointer (some ⟨d, 0, none⟩), .int .i64 n] w fun e w' => e = .returned (.tuple #[.int .i64 (rdK st n), .string (rdT st n), .int .i64 (rdE st n)]) ∧ Below w.heap.size w w' := by
  have R1 := Lib.hid (read_any w d st F h n)
  have O1 := Lib.hid (fun w => open_any (Str (st.read n).1) w)
  rw [Str_list] at O1
  unfold rdK rdT rdE
  clear h
  generalize Str (st.read n).1 = b at R1 O1
  generalize (st.read n).1 = l at O1 ⊢
  generalize (st.read n).2 = e0 at R1 ⊢
  by_cases h0 : e0 = 0
  · subst h0
    rw [if_pos rfl, if_pos rfl, if_pos rfl]
    generalize (opK l : Int) = K at O1 ⊢
    generalize Str (opT l) = T at O1 ⊢
    generalize (opE l : Int) = E at O1 ⊢
    go_enter Tryd.func39, Tryd.ntmps39
    go_wp2_with fail
    refine R1.out.mono ?_
    rintro e w1 ⟨rfl, rfl⟩
    go_wp2_with fail
    refine (O1.out _).mono ?_
    rintro e w2 ⟨rfl, b2⟩
    have HP2 := Lib.hid b2
    clear b2
    go_wp2_with fail
    go_ret3
    exact ⟨rfl, HP2.out⟩
  · rw [if_neg h0, if_neg h0, if_neg h0]
    have h1 : (e0 == 0) = false := by simpa using h0
    have h2 : (e0 != 0) = true := by simp [bne, h1]
    clear O1
    go_enter Tryd.func39, Tryd.ntmps39
    go_wp2_with fail
    refine R1.out.mono ?_
    rintro e w1 ⟨rfl, rfl⟩
    go_wp2_with fail
    go_ret3
    exact ⟨rfl, Below.refl _ _⟩
end Go.Proofs.YtbjmbndeaobbeaaDoor
