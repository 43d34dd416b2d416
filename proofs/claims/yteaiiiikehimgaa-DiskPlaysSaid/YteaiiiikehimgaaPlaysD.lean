/-
  DiskPlays: what like says of both disks.
-/
import Derived.Test.YteaiiiikehimgaaPairR
namespace Go.Proofs.Yteaiiiikehimgaa
open Go.RowKit
set_option linter.unusedVariables false
set_option linter.unusedSimpArgs false
set_option maxHeartbeats 3200000 in
set_option maxRecDepth 20000 in
theorem like_is {w0 w : World} {R : Nat → Prop} {d x : Nat} {st sx : DkS} (h : PairR w0 w R d x st sx) (hs : SameS st sx) :
    Calls Try.prog 11 #[.pointer (some ⟨d, 0, none⟩), .pointer (some ⟨x, 0, none⟩)] w fun e w' => e = .returned (.bool true) ∧ PairR w0 w' R d x st sx ∧ KeptR R w w' := by
  have H := Lib.hid h
  have HS := Lib.hid hs
  clear h hs
  go_enter Try.func11, Try.ntmps11
  go_wp2_with fail
  refine H.out.dloose.mono ?_
  rintro e w1 ⟨v, rfl, hv, b1⟩
  have HV := Lib.hid hv
  have P1 := Lib.hid (H.out.step b1)
  clear hv b1
  go_wp2_with fail
  refine P1.out.1.xloose.mono ?_
  rintro e w2 ⟨u, rfl, hu, b2⟩
  rw [HS.out.2.1] at hu
  have HU := Lib.hid hu
  have HV2 := Lib.hid (HV.out.keep b2)
  have P2 : Hid (PairR w0 w2 R d x st sx ∧ KeptR R w w2) := Lib.hid ⟨(P1.out.1.step b2).1, P1.out.2.trans (P1.out.1.step b2).2⟩
  clear hu b2 HV P1
  go_wp2_with fail
  refine (numbers_same w2 v u _ HV2.out HU.out).mono ?_
  rintro e w3 ⟨rfl, b3⟩
  have P3 : Hid (PairR w0 w3 R d x st sx ∧ KeptR R w w3) := Lib.hid ⟨(P2.out.1.step b3).1, P2.out.2.trans (P2.out.1.step b3).2⟩
  clear b3 HU HV2 P2
  have UP := Lib.hid (fun w (h : PairR w0 w R d x st sx) => h.dup)
  have SZ := Lib.hid (fun w (h : PairR w0 w R d x st sx) => h.dsize)
  have hup := HS.out.2.2.1
  have hSS := HS.out.1
  obtain ⟨g, cap, c0, h1, h2, c3, _, _, hsec⟩ := P3.out.1.xcells
  have HSEC := Lib.hid hsec
  rw [hSS] at c0 h1
  rw [hup] at c3
  obtain ⟨m, hm⟩ : ∃ m, st.S.length = m := ⟨_, rfl⟩
  have hmx : Hid (m ≤ 9223372036854775807) := Lib.hid (by rw [← hm]; unfold maxLen at h2; omega)
  have HM := Lib.hid hm
  rw [hm] at c0 h1 SZ
  clear hsec hm hup hSS
  have hmi : (m : Int) ≤ 9223372036854775807 := by have := hmx.out; omega
  obtain ⟨up, hu⟩ : ∃ up, st.up = up := ⟨_, rfl⟩
  have HUP := Lib.hid hu
  rw [hu] at UP c3
  clear hu
  have PN := Lib.hid (fun k => (P3.out.1.step (drewN_below (Below.refl _ _) k)).1)
  cases up
  · go_wp2_with fail
    go_quiet ((first | (go_at_call 19; exact Calls.quiet_of_same ((UP.out _ (PN.out _)).mono fun _ _ h => ⟨h.1, h.2.symm⟩)) | (go_at_call 28; exact Calls.quiet_of_same ((SZ.out _ (PN.out _)).mono fun _ _ h => ⟨h.1, h.2.symm⟩))))
    have P4 : Hid (PairR w0 (w3.drewN nq) R d x st sx ∧ KeptR R w (w3.drewN nq)) := Lib.hid ⟨PN.out nq, P3.out.2.trans (fun _ _ => rfl)⟩
    clear c0 c3
    go_wp2_with fail
    go_loopw [6, 7, 8] (fun i _ _ wr => i = .int .i64 0 ∧ Hid (PairR w0 wr R d x st sx ∧ KeptR R w wr)) (fun _ _ _ _ => 1)
    case atStart => exact ⟨rfl, P4⟩
    case round =>
      obtain ⟨rfl, HP⟩ := hrel
      obtain ⟨g, cap, c0, h1, h2, c3, _, _, _⟩ := HP.out.1.xcells
      rw [HS.out.1, HM.out] at c0
      rw [HS.out.2.2.1, HUP.out] at c3
      by_cases h0 : 0 < m
      · have h0i : 0 < (m : Int) := by omega
        go_wp2_with fail
        go_ret
        exact ⟨rfl, HP.out⟩
      · have h0i : ¬ 0 < (m : Int) := by omega
        go_wp2_with fail
        go_ret
        exact ⟨rfl, HP.out⟩
  · go_wp2_with fail
    go_quiet ((first | (go_at_call 19; exact Calls.quiet_of_same ((UP.out _ (PN.out _)).mono fun _ _ h => ⟨h.1, h.2.symm⟩)) | (go_at_call 28; exact Calls.quiet_of_same ((SZ.out _ (PN.out _)).mono fun _ _ h => ⟨h.1, h.2.symm⟩))))
    have P4 : Hid (PairR w0 (w3.drewN nq) R d x st sx ∧ KeptR R w (w3.drewN nq)) := Lib.hid ⟨PN.out nq, P3.out.2.trans (fun _ _ => rfl)⟩
    clear c0 c3
    go_wp2_with fail
    go_loopw [6, 7, 8] (fun i _ _ wr => ∃ j : Nat, j ≤ m ∧ i = .int .i64 (j : Int) ∧ Hid (PairR w0 wr R d x st sx ∧ KeptR R w wr)) (fun i _ _ _ => m + 1 - (intOf i).toNat)
    case atStart => exact ⟨0, Nat.zero_le _, rfl, P4⟩
    case round =>
      obtain ⟨j, hj, rfl, HP⟩ := hrel
      obtain ⟨g, cap, c0, h1, h2, c3, _, _, hsec⟩ := HP.out.1.xcells
      rw [HS.out.1, HM.out] at c0 h1 hsec
      rw [HS.out.2.2.1, HUP.out] at c3
      by_cases hlt : j < m
      · have hji : (j : Int) < (m : Int) := by omega
        have cj := hsec j hlt
        have RD : Hid (st.read (j : Int) = (st.S.getD j [], 0)) := Lib.hid (by
          rw [read_done st j HUP.out (by rw [HM.out]; exact hlt), List.getD_eq_getElem?_getD, List.getElem?_eq_getElem (by rw [HM.out]; exact hlt)]
          rfl)
        obtain ⟨X, HX⟩ : ∃ X, Hid (Str (st.S.getD j []) = X) := ⟨_, Lib.hid rfl⟩
        rw [HX.out] at cj
        clear hsec
        go_wp2_with fail
        have RDC : Calls Try.prog 18 #[.pointer (some ⟨d, 0, none⟩), .int .i64 (j : Int)] wr fun e w' => e = .returned (.tuple #[.string X, .int .i64 0]) ∧ wr = w' := by
          have := HP.out.1.dread (j : Int)
          rw [RD.out] at this
          rw [← HX.out]
          exact this
        refine RDC.mono ?_
        rintro e w5 ⟨rfl, rfl⟩
        go_wp2_with fail
        go_roundw
        case rel => exact ⟨j + 1, by omega, by go_num, HP⟩
        case measure => simp [intOf]; omega
      · have hji : ¬ (j : Int) < (m : Int) := by omega
        clear hsec
        go_wp2_with fail
        go_ret
        exact ⟨rfl, HP.out⟩
end Go.Proofs.Yteaiiiikehimgaa
