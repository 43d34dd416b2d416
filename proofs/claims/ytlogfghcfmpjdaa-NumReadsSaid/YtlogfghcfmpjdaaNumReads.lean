import Derived.Test.YtlogfghcfmpjdaaRef01
namespace Go.Proofs.Ytlogfghcfmpjdaa
open Go.RowKit

set_option maxHeartbeats 400000 in
theorem numReads_walk (b : ByteArray) (size : Int) (w : World) (hm : b.size ≤ 9223372036854775807) (F : Int) (ok : Bool) (hF : ttE b = F) (hok : ttOk b = ok)
    (h1 : ok = true ∧ F = 0 ∨ ok = false ∧ F = 2) :
    Calls Try.prog 4 #[.string b, .int .i64 size] w fun e w' => e = .returned (.bool true) ∧ Below w.heap.size w w' := by
  have HF := Lib.hid hF
  have HK := Lib.hid hok
  have HM := Lib.hid hm
  clear hF hok hm
  have he : 0 ≤ takeE b size ∧ takeE b size ≤ 2 := by unfold takeE; split <;> (try split) <;> simp
  obtain ⟨e0, e2⟩ := he
  rcases h1 with ⟨rfl, rfl⟩ | ⟨rfl, rfl⟩
  all_goals
    go_enter Try.func4, Try.ntmps4
    go_wp2_with fail
    refine (examples_any _).mono ?_
    rintro e w1 ⟨rfl, b1⟩
    go_wp2_with fail
    refine (take_any _ _ _).mono ?_
    rintro e w2 ⟨rfl, b2⟩
    go_wp2_with fail
    refine (refTake_any _ _ _).mono ?_
    rintro e w3 ⟨rfl, b3⟩
    go_wp2_with fail
    refine (takeText_any _ _ HM.out).mono ?_
    rw [HF.out]
    rintro e w4 ⟨rfl, b4⟩
    go_wp2_with fail
    refine (refTakeText_any _ _ HM.out).mono ?_
    rw [HK.out]
    rintro e w5 ⟨rfl, b5⟩
    have b := (((b1.trans (b2.mono b1.size)).trans (b3.mono (Nat.le_trans b1.size b2.size))).trans (b4.mono (Nat.le_trans b1.size (Nat.le_trans b2.size b3.size)))).trans (b5.mono (Nat.le_trans b1.size (Nat.le_trans b2.size (Nat.le_trans b3.size b4.size))))
    clear b1 b2 b3 b4 b5
    go_wp2_with fail
    go_ret
    exact ⟨ret_true (by simp), b⟩
theorem numReads_law (a0 : ByteArray) (a1 : Int) (w : World) (z0 : a0.size ≤ 140737488351232) (_w1 : (Lit.int .i64 a1).wf = true) :
    Calls Try.prog 4 #[.string a0, .int .i64 a1] w fun e w' => e = .returned (.bool true) ∧ Below w.heap.size w w' := by
  refine numReads_walk a0 a1 w (by omega) _ _ rfl rfl ?_
  unfold ttE; cases ttOk a0 <;> simp
end Go.Proofs.Ytlogfghcfmpjdaa
