/-
  Package bailiwicklaw09: the chapter's example; a store that a law makes.
-/
import Derived.Test.YtbjmbndeaobbeaaDoorShL
namespace Go.Proofs.YtbjmbndeaobbeaaDoor
open Go.RowKit
set_option linter.unusedVariables false
set_option linter.unusedSimpArgs false
set_option maxHeartbeats 3200000 in
set_option maxRecDepth 20000 in
theorem examples_yes (w : World) :
    Calls Tryd.prog 7 #[] w fun e w' => e = .returned (.bool true) ∧ Below w.heap.size w w' := by
  have NY := Lib.hid fun w => new_yes w 8 (by decide) (by decide)
  go_enter Tryd.func7, Tryd.ntmps7
  go_wp2_with fail
  refine (NY.out _).mono ?_
  intro e w1 hm
  obtain ⟨d, rfl, hd⟩ := made_L (Below.refl _ _) hm
  clear hm NY
  have HD := Lib.hid (show DkL w w1 d exD0 from hd)
  clear hd
  have pn := ptr_nilD ⟨d, 0, none⟩
  go_wp2_with fail
  refine (mountNone_L HD.out 3 (by decide) ex_a).mono ?_
  rintro e w2 ⟨rfl, hd⟩
  have HD2 := Lib.hid hd
  clear hd HD
  go_wp2_with fail
  refine (format_L HD2.out ex_b).mono ?_
  rintro e w3 ⟨s, rfl, hs⟩
  have HS3 := Lib.hid (show DSL w w3 d s exD1 (ShS.new fmtH) from hs)
  clear hs HD2
  have sn := ptr_nilS ⟨s, 0, none⟩
  go_wp2_with fail
  refine (take_L HS3.out rfl 2 (Nat.le_refl _) (by rw [ex_c.2]; decide) (fun k h1 h2 => absurd h1 (by omega)) ex_c.1).mono ?_
  rintro e w4 ⟨rfl, hs⟩
  have HS4 := Lib.hid (show DSL w w4 d s exD1 exS1 from hs)
  clear hs HS3
  go_wp2_with fail
  refine (writeS_L HS4.out 2 2 ⟨#[120]⟩).mono ?_
  rw [ex_d]
  rintro e w5 ⟨rfl, hs⟩
  have HS5 := Lib.hid (show DSL w w5 d s exD2 exS2 from hs)
  clear hs HS4
  go_wp2_with fail
  refine (commit_L HS5.out 2 (by decide)).mono ?_
  rw [ex_e]
  rintro e w6 ⟨rfl, hs⟩
  have HS6 := Lib.hid (show DSL w w6 d s exD3 (exS2.commit exD2 2).2.1 from hs)
  clear hs HS5
  go_wp2_with fail
  refine (mount_L HS6.out ex_f.1).mono ?_
  rintro e w7 ⟨s', rfl, hs⟩
  have HS7 := Lib.hid hs
  clear hs HS6
  have s1 := ptr_neS ⟨s', 0, none⟩
  have s2 := ptr_nilS ⟨s', 0, none⟩
  have nn := nil_nilS
  have RT := Lib.hid (root_L HS7.out)
  have GN := Lib.hid (gen_L HS7.out)
  have e1 : (ShS.new (lastH exD3).1).h.root = 2 := ex_f.2.1
  have e2 : (ShS.new (lastH exD3).1).h.gen = 2 := ex_f.2.2
  rw [e1] at RT
  rw [e2] at GN
  have B7 := Lib.hid HS7.out.below
  clear e1 e2 HS7
  go_wp2_with fail
  refine RT.out.mono ?_
  rintro e w8 ⟨rfl, rfl⟩
  go_wp2_with fail
  refine GN.out.mono ?_
  rintro e w8 ⟨rfl, rfl⟩
  go_wp2_with fail
  go_ret
  exact ⟨rfl, B7.out⟩
set_option maxHeartbeats 1600000 in
set_option maxRecDepth 20000 in
/-- A store that is made on a new disk. -/
theorem made_is (w : World) (n : Nat) (h8 : 8 ≤ n) (hn : n ≤ 640) :
    Calls Tryd.prog 8 #[.int .i64 (n : Int)] w fun e w' => ∃ d s, e = .returned (.tuple #[.pointer (some ⟨d, 0, none⟩), .pointer (some ⟨s, 0, none⟩)]) ∧ DSL w w' d s (wrHead (DkS.fresh n) fmtH).1 (ShS.new fmtH) := by
  have NY := Lib.hid fun w => new_yes w n h8 hn
  have WF := Lib.hid (wrHead_fresh n h8 hn)
  clear h8 hn
  go_enter Tryd.func8, Tryd.ntmps8
  go_wp2_with fail
  refine (NY.out _).mono ?_
  intro e w1 hm
  obtain ⟨d, rfl, hd⟩ := made_L (Below.refl _ _) hm
  clear hm NY
  have HD := Lib.hid hd
  clear hd
  have pn := ptr_nilD ⟨d, 0, none⟩
  go_wp2_with fail
  refine (format_L HD.out WF.out.1).mono ?_
  rintro e w3 ⟨s, rfl, hs⟩
  have HS3 := Lib.hid hs
  clear hs HD
  have sn := ptr_nilS ⟨s, 0, none⟩
  go_wp2_with fail
  go_ret2
  exact ⟨d, s, rfl, HS3.out⟩
end Go.Proofs.YtbjmbndeaobbeaaDoor
