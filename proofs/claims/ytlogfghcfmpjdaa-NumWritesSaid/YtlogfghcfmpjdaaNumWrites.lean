import Derived.Test.YtlogfghcfmpjdaaRef01
namespace Go.Proofs.Ytlogfghcfmpjdaa
open Go.RowKit

set_option maxHeartbeats 400000 in
theorem numWrites_walk (n size : Int) (s : ByteArray) (w : World) (h0 : 0 ≤ n) (hm : n ≤ 18446744073709551615) (E F : Int) (ok is : Bool) (hE : putE n size = E) (hF : textE s = F) (hok : putOk n size = ok) (his : textOk s = is)
    (h1 : ok = true ∧ E = 0 ∨ ok = false ∧ E = 1) (h2 : is = true ∧ F = 0 ∨ is = false ∧ F = 16) :
    Calls Try.prog 3 #[.int .u64 n, .int .i64 size, .string s] w fun e w' => e = .returned (.bool true) ∧ Below w.heap.size w w' := by
  have HE := Lib.hid hE
  have HF := Lib.hid hF
  have HK := Lib.hid hok
  have HI := Lib.hid his
  have HM := Lib.hid hm
  clear hE hF hok his hm
  rcases h1 with ⟨rfl, rfl⟩ | ⟨rfl, rfl⟩ <;> rcases h2 with ⟨rfl, rfl⟩ | ⟨rfl, rfl⟩
  all_goals
    go_enter Try.func3, Try.ntmps3
    go_wp2_with fail
    refine (examples_any _).mono ?_
    rintro e w1 ⟨rfl, b1⟩
    go_wp2_with fail
    refine (put_any _ _ _ (by omega)).mono ?_
    rw [HE.out]
    rintro e w2 ⟨rfl, b2⟩
    go_wp2_with fail
    refine (refPut_any _ _ _ (by omega) HM.out).mono ?_
    rw [HK.out]
    rintro e w3 ⟨rfl, b3⟩
    go_wp2_with fail
    refine (text_any _ _).mono ?_
    rw [HF.out]
    rintro e w4 ⟨rfl, b4⟩
    go_wp2_with fail
    refine (refText_any _ _).mono ?_
    rw [HI.out]
    rintro e w5 ⟨rfl, b5⟩
    have b := (((b1.trans (b2.mono b1.size)).trans (b3.mono (Nat.le_trans b1.size b2.size))).trans (b4.mono (Nat.le_trans b1.size (Nat.le_trans b2.size b3.size)))).trans (b5.mono (Nat.le_trans b1.size (Nat.le_trans b2.size (Nat.le_trans b3.size b4.size))))
    clear b1 b2 b3 b4 b5
    go_wp2_with fail
    go_ret
    exact ⟨ret_true (by simp), b⟩
theorem numWrites_law (a0 a1 : Int) (a2 : ByteArray) (w : World) (w0 : (Lit.int .u64 a0).wf = true) (_w1 : (Lit.int .i64 a1).wf = true) (_z2 : a2.size ≤ 140737488351232) :
    Calls Try.prog 3 #[.int .u64 a0, .int .i64 a1, .string a2] w fun e w' => e = .returned (.bool true) ∧ Below w.heap.size w w' := by
  obtain ⟨l, h⟩ := bounds_u64 w0
  refine numWrites_walk a0 a1 a2 w l h _ _ _ _ rfl rfl rfl rfl ?_ ?_
  · unfold putE; cases putOk a0 a1 <;> simp
  · unfold textE textOk; by_cases h : a2.size ≤ 255 <;> simp [h]
end Go.Proofs.Ytlogfghcfmpjdaa
