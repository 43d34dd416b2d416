import Derived.Test.YtojofakfnlofhaaDoorPgDisk
import Derived.Test.YtojofakfnlofhaaDoorEx07
namespace Go.Proofs.YtojofakfnlofhaaDoor
open Go.RowKit
set_option linter.unusedVariables false
set_option linter.unusedSimpArgs false
set_option maxHeartbeats 6400000 in
set_option maxRecDepth 20000 in
theorem pageLays_walk (a0 at_ : Int) (raw : ByteArray) (n kind : Int) (text : ByteArray) (other : Int) (f : Nat) (w : World) (r0 : -9223372036854775808 ≤ a0) (r1 : a0 ≤ 9223372036854775807)
    (hf : (a0 < 0 ∧ -((a0 + 1).tmod 13) = (f : Int)) ∨ (0 ≤ a0 ∧ a0 % 13 = (f : Int))) (hf13 : f < 13) :
    Calls Tryd.prog 4 #[.int .i64 a0, .int .i64 at_, .string raw, .int .i64 n, .int .i64 kind, .string text, .int .i64 other] w fun e w' => e = .returned (.bool true) ∧ Below w.heap.size w w' := by
  have NY := Lib.hid fun w => new_yes w (8 + f) (by omega) (by omega)
  have RY := Lib.hid fun w => refNew_yes w (8 + f) (by omega) (by omega)
  have e8 : ((8 + f : Nat) : Int) = 8 + (f : Int) := by omega
  rw [e8] at NY RY
  clear e8
  generalize DkS.fresh (8 + f) = st0 at NY RY
  rcases hf with ⟨ha, hr⟩ | ⟨ha, hr⟩
  all_goals
    go_enter Tryd.func4, Tryd.ntmps4
    try simp only [List.append_eq, List.cons_append, List.nil_append]
    go_wp2_with fail
    refine (examples_any _).mono ?_
    rintro e w1 ⟨rfl, bb⟩
    have BB := Lib.hid bb
    clear bb
    go_wp2_with fail
    refine (NY.out _).mono ?_
    intro e w2 hmade
    obtain ⟨d, Fd, rfl, hm1, hm2, hm3⟩ := hmade
    have HM : Hid (Made w1 st0 (.returned (.tuple #[.pointer (some ⟨d, 0, none⟩), .int .i64 0])) w2) := Lib.hid ⟨d, Fd, rfl, hm1, hm2, hm3⟩
    clear hm1 hm2 hm3
    go_wp2_with fail
    refine (RY.out _).mono ?_
    intro e w3 hm2
    obtain ⟨d', x, hd', rfl, hp⟩ := Pair.made BB.out HM.out hm2
    obtain rfl : d = d' := by
      injection hd' with h1
      injection h1 with h1
      have h2 := congrArg (fun a : Array Value => a[0]?) h1
      simpa using h2
    have HP := Lib.hid hp
    have pn := ptr_nil ⟨d, 0, none⟩
    clear hm2 hp hd' HM
    go_wp2_with fail
    refine (HP.out.dwrite at_ raw).mono ?_
    rintro e w4 ⟨rfl, h4⟩
    have HP4 := Lib.hid h4
    clear h4
    go_wp2_with fail
    refine (HP4.out.xwrite at_ raw).mono ?_
    rintro e w5 ⟨rfl, h5⟩
    have HP5 := Lib.hid h5
    clear h5
    generalize (st0.write at_ raw.data.toList).2 = v1
    generalize (st0.write at_ raw.data.toList).1 = st1 at HP5
    go_wp2_with fail
    refine (pgWrite_is HP5.out n kind text).mono ?_
    rintro e w6 ⟨rfl, h6⟩
    have HP6 := Lib.hid h6
    clear h6
    go_wp2_with fail
    refine (refPgWrite_is HP6.out n kind text).mono ?_
    rintro e w7 ⟨rfl, h7⟩
    have HP7 := Lib.hid h7
    clear h7
    generalize (pgWr st1 n kind text).2 = v2
    generalize (pgWr st1 n kind text).1 = st2 at HP7
    go_wp2_with fail
    refine (pgRead_is HP7.out n).mono ?_
    rintro e w8 ⟨rfl, h8⟩
    have HP8 := Lib.hid h8
    clear h8
    go_wp2_with fail
    refine (refPgRead_is HP8.out n).mono ?_
    rintro e w9 ⟨rfl, h9⟩
    have HP9 := Lib.hid h9
    clear h9
    generalize rdK st2 n = k3
    generalize rdT st2 n = t3
    generalize rdE st2 n = e3
    go_wp2_with fail
    refine (pgRead_is HP9.out other).mono ?_
    rintro e w10 ⟨rfl, h10⟩
    have HP10 := Lib.hid h10
    clear h10
    go_wp2_with fail
    refine (refPgRead_is HP10.out other).mono ?_
    rintro e w11 ⟨rfl, h11⟩
    have HB := Lib.hid h11.below
    clear h11
    generalize rdK st2 other = k4
    generalize rdT st2 other = t4
    generalize rdE st2 other = e4
    go_wp2_with fail
    go_ret
    exact ⟨rfl, HB.out⟩
theorem pageLays_law (a0 a1 : Int) (a2 : ByteArray) (a3 a4 : Int) (a5 : ByteArray) (a6 : Int) (w : World) (v0 : (Lit.int .i64 a0).wf = true) (_ : (Lit.int .i64 a1).wf = true) (_ : a2.size ≤ 140737488351232) (_ : (Lit.int .i64 a3).wf = true) (_ : (Lit.int .i64 a4).wf = true) (_ : a5.size ≤ 140737488351232) (_ : (Lit.int .i64 a6).wf = true) :
    Calls Tryd.prog 4 #[.int .i64 a0, .int .i64 a1, .string a2, .int .i64 a3, .int .i64 a4, .string a5, .int .i64 a6] w fun e w' => e = .returned (.bool true) ∧ Below w.heap.size w w' := by
  obtain ⟨f, hf, hf2⟩ := norm_mod a0 13 (by decide)
  have r0 := i64_range a0 v0
  exact pageLays_walk a0 a1 a2 a3 a4 a5 a6 f w r0.1 r0.2 hf2 hf
end Go.Proofs.YtojofakfnlofhaaDoor
