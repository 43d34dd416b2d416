import Derived.Test.YtojofakfnlofhaaDoorRef07
namespace Go.Proofs.YtojofakfnlofhaaDoor
open Go.RowKit
set_option linter.unusedVariables false
set_option linter.unusedSimpArgs false
set_option maxHeartbeats 3200000 in
set_option maxRecDepth 20000 in
theorem pageSeals_walk (k : Int) (t b s t2 : ByteArray) (e k2 f : Int) (ok : Bool) (N : Nat) (w : World) (hN : N < 4294967296) (f0 : 0 ≤ f) (f1 : f ≤ 100)
    (S1 : Hid (∀ w, Calls Tryd.prog 9 #[.int .i64 k, .string t] w fun e' w' => e' = .returned (.tuple #[.string s, .int .i64 e]) ∧ Below w.heap.size w w'))
    (S2 : Hid (∀ w, Calls Tryd.prog 10 #[.int .i64 k, .string t] w fun e' w' => e' = .returned (.tuple #[.string s, .bool ok]) ∧ Below w.heap.size w w'))
    (O1 : Hid (∀ w, Calls Tryd.prog 11 #[.string b] w fun e' w' => e' = .returned (.tuple #[.int .i64 k2, .string t2, .int .i64 f]) ∧ Below w.heap.size w w'))
    (O2 : Hid (∀ w, Calls Tryd.prog 12 #[.string b] w fun e' w' => e' = .returned (.tuple #[.int .i64 k2, .string t2, .int .i64 f]) ∧ Below w.heap.size w w'))
    (U1 : Hid (∀ w, Calls Tryd.prog 13 #[.string t] w fun e' w' => e' = .returned (.int .u32 (N : Int)) ∧ w = w'))
    (U2 : Hid (∀ w, Calls Tryd.prog 14 #[.string t] w fun e' w' => e' = .returned (.int .u32 (N : Int)) ∧ w = w'))
    (H : Hid ((ok = true ∧ e = 0) ∨ (ok = false ∧ e = 1))) :
    Calls Tryd.prog 3 #[.int .i64 k, .string t, .string b] w fun e w' => e = .returned (.bool true) ∧ Below w.heap.size w w' := by
  rcases H.out with ⟨rfl, rfl⟩ | ⟨rfl, rfl⟩
  all_goals
    clear H
    go_enter Tryd.func3, Tryd.ntmps3
    go_wp2_with fail
    refine (examples_any _).mono ?_
    rintro e w1 ⟨rfl, b1⟩
    go_wp2_with fail
    refine (S1.out _).mono ?_
    rintro e w2 ⟨rfl, b2⟩
    go_wp2_with fail
    refine (S2.out _).mono ?_
    rintro e w3 ⟨rfl, b3⟩
    go_wp2_with fail
    refine (O1.out _).mono ?_
    rintro e w4 ⟨rfl, b4⟩
    go_wp2_with fail
    refine (O2.out _).mono ?_
    rintro e w5 ⟨rfl, b5⟩
    have B := Lib.hid (chain (chain (chain (chain b1 b2) b3) b4) b5)
    clear b1 b2 b3 b4 b5 S1 S2 O1 O2
    go_wp2_with fail
    refine (U1.out _).mono ?_
    rintro e w6 ⟨rfl, rfl⟩
    go_wp2_with fail
    refine (U2.out _).mono ?_
    rintro e w7 ⟨rfl, rfl⟩
    go_wp2_with fail
    go_ret
    exact ⟨rfl, B.out⟩
theorem pageSeals_law (a0 : Int) (a1 a2 : ByteArray) (w : World) (_ : (Lit.int .i64 a0).wf = true) (z1 : a1.size ≤ 140737488351232) (z2 : a2.size ≤ 140737488351232) :
    Calls Tryd.prog 3 #[.int .i64 a0, .string a1, .string a2] w fun e w' => e = .returned (.bool true) ∧ Below w.heap.size w w' := by
  have hf : (opE a2.data.toList) ≤ 100 := by
    unfold opE
    split
    · split
      · split <;> omega
      · omega
    · omega
  refine pageSeals_walk a0 a1 a2 _ _ _ _ _ _ _ w (adS_lt a1.data.toList) (by omega) (by omega) (Lib.hid fun w => seal_any a0 a1 w) (Lib.hid fun w => refSeal_any a0 a1 w) (Lib.hid fun w => open_any a2 w) (Lib.hid fun w => refOpen_any a2 w) (Lib.hid fun w => pgSum_any a1 w (by omega) _ (Lib.hid rfl)) (Lib.hid fun w => refSum7_any a1 w (by omega) _ (Lib.hid rfl)) (Lib.hid ?_)
  cases hb : sealB a0 a1
  · exact .inr ⟨rfl, by unfold sealE; rw [hb]; rfl⟩
  · exact .inl ⟨rfl, by unfold sealE; rw [hb]; rfl⟩
end Go.Proofs.YtojofakfnlofhaaDoor
