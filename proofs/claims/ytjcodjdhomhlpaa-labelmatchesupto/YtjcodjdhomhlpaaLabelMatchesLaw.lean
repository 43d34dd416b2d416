import Derived.Test.YtjcodjdhomhlpaaRefMatch
namespace Go.Proofs.Ytjcodjdhomhlpaa
open Go.RowKit
set_option linter.unusedVariables false

set_option maxHeartbeats 3200000 in
theorem labelMatches_walk (p s : ByteArray) (L : List ByteArray) (n : Nat) (v : Bool) (w : World) (hp : p.size ≤ 1048576) (hs : s.size ≤ 1048576) (PS : Hid (partsL s = L)) (hn : Hid (L.length = n)) (n2 : n ≤ 1048577) (V : Hid (matchB p s = v)) :
    Calls Try.prog 4 #[.string p, .string s] w fun e w' => e = .returned (.bool true) ∧ Below w.heap.size w w' := by
  go_enter Try.func4, Try.ntmps4
  go_wp2_with fail
  refine (examples_any _).mono ?_
  rintro e w1 ⟨rfl, bb⟩
  go_wp2_with fail
  refine (parts_any _ _ hs).mono ?_
  rw [PS.out]
  rintro e w2 ⟨⟨g, cap, rfl, T1⟩, b1⟩
  rw [hn.out]
  replace bb := chain bb b1
  clear b1
  have T1' := Lib.hid T1
  clear T1
  go_wp2_with fail
  refine (refParts_any _ _ hs).mono ?_
  rw [PS.out]
  rintro e w3 ⟨⟨g2, cap2, rfl, T2⟩, b1⟩
  rw [hn.out]
  have CA := Lib.hid (T1'.out.below b1).cells
  have CB := Lib.hid T2.cells
  replace bb := chain bb b1
  clear b1 T2
  go_wp2_with fail
  refine (words_any L L g g2 n _ _ _ hn.out (by omega) CA.out CB.out).mono ?_
  rintro e w4 ⟨rfl, q, rfl⟩
  replace bb := drewN_below bb q
  generalize w3.drewN q = w5 at *
  go_wp2_with fail
  refine (match_any _ _ _ hp hs).mono ?_
  rw [V.out]
  rintro e w9 ⟨rfl, b9⟩
  replace bb := chain bb b9
  clear b9
  go_wp2_with fail
  refine (refMatch_any _ _ _ hp hs).mono ?_
  rw [V.out]
  rintro e w9 ⟨rfl, b9⟩
  replace bb := chain bb b9
  clear b9
  go_wp2_with fail
  go_ret
  exact ⟨ret_true (by simp), bb⟩
theorem labelMatches_law (a0 a1 : ByteArray) (w : World) (z0 : a0.size ≤ 1048576) (z1 : a1.size ≤ 1048576) :
    Calls Try.prog 4 #[.string a0, .string a1] w fun e w' => e = .returned (.bool true) ∧ Below w.heap.size w w' :=
  labelMatches_walk a0 a1 _ _ _ w z0 z1 (Lib.hid rfl) (Lib.hid rfl) (by have := partsL_length a1; omega) (Lib.hid rfl)
end Go.Proofs.Ytjcodjdhomhlpaa
