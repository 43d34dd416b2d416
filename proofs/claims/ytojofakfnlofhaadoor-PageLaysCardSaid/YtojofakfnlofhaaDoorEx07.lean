/-
  Package page: what Seal answers; the chapter's examples.
-/
import Derived.Test.YtojofakfnlofhaaDoorPgOpen
namespace Go.Proofs.YtojofakfnlofhaaDoor
open Go.RowKit
set_option linter.unusedVariables false
set_option linter.unusedSimpArgs false
theorem sealB_iff (k : Int) (t : ByteArray) : sealB k t = true ↔ 1 ≤ k ∧ k ≤ 15 ∧ t.size ≤ 240 := by
  unfold sealB
  rw [Bool.and_eq_true, kindB_iff, decide_eq_true_eq, and_assoc]
/-- Seal, whatever it is asked. -/
theorem seal_any (k : Int) (t : ByteArray) (w : World) :
    Calls Tryd.prog 9 #[.int .i64 k, .string t] w fun e w' => e = .returned (.tuple #[.string (sealS k t), .int .i64 (sealE k t)]) ∧ Below w.heap.size w w' := by
  cases h : sealB k t
  · refine (seal_no k t w h).mono ?_
    rintro e w' ⟨rfl, rfl⟩
    exact ⟨by unfold sealS sealE; rw [h]; rfl, Below.refl _ _⟩
  · obtain ⟨h1, h2, h3⟩ := (sealB_iff k t).1 h
    obtain ⟨n, rfl⟩ := Int.eq_ofNat_of_zero_le (show 0 ≤ k by omega)
    refine (seal_yes n t w (by omega) (by omega) h3 _ (Lib.hid rfl)).mono ?_
    rintro e w' ⟨rfl, hb⟩
    exact ⟨by unfold sealS sealE; rw [h]; rfl, hb⟩
def helloT : ByteArray := ⟨#[104, 101, 108, 108, 111]⟩
theorem hello_seal : sealB 3 helloT = true := by decide +kernel
theorem hello_E : sealE 3 helloT = 0 := by unfold sealE; rw [hello_seal]; rfl
theorem hello_S : sealS 3 helloT = Str (pgL 3 helloT.data.toList) := by unfold sealS; rw [hello_seal]; rfl
theorem hello_size : (sealS 3 helloT).size = 256 := by rw [hello_S, Str_size]; exact pgL_length 3 _ (by decide)
theorem hello_open : opK (sealS 3 helloT).data.toList = 3 ∧ opT (sealS 3 helloT).data.toList = helloT.data.toList ∧ opE (sealS 3 helloT).data.toList = 0 := by
  rw [hello_S, Str_list]
  obtain ⟨e, k, t⟩ := pg_back 3 helloT.data.toList (by decide) (by decide) (by decide)
  unfold opK opT
  rw [e, k, t]
  exact ⟨rfl, rfl, rfl⟩
theorem zeros_E : opE (List.replicate 256 0) = 15 := by decide +kernel
theorem wiki_S : adS [87, 105, 107, 105, 112, 101, 100, 105, 97] = 300286872 := by decide +kernel
set_option maxHeartbeats 1600000 in
set_option maxRecDepth 20000 in
theorem examples_any (w : World) :
    Calls Tryd.prog 8 #[] w fun e w' => e = .returned (.bool true) ∧ Below w.heap.size w w' := by
  obtain ⟨S, HS⟩ : ∃ S, sealS 3 helloT = S := ⟨_, rfl⟩
  have hz := hello_size
  have ho := hello_open
  rw [HS] at hz ho
  have SE := Lib.hid fun w => seal_any 3 helloT w
  rw [HS, hello_E] at SE
  have O1 := Lib.hid fun w => open_any S w
  rw [ho.1, ho.2.1, ho.2.2] at O1
  have e1 : Str helloT.data.toList = helloT := Str_of _
  rw [e1] at O1
  have O2 := Lib.hid fun w => open_any ⟨#[]⟩ w
  have e2 : opE ((⟨#[]⟩ : ByteArray).data.toList) = 2 := by decide +kernel
  obtain ⟨Z, HZ⟩ : ∃ Z, Str (List.replicate 256 (0 : UInt8)) = Z := ⟨_, rfl⟩
  have O3 := Lib.hid fun w => open_any Z w
  have e3 : opE Z.data.toList = 15 := by rw [← HZ, Str_list]; exact zeros_E
  have e4 : opK Z.data.toList = 0 := by unfold opK; rw [e3]; rfl
  have e5 : Str (opT Z.data.toList) = ⟨#[]⟩ := by unfold opT; rw [e3]; rfl
  rw [e3, e4, e5] at O3
  have SU := Lib.hid fun w => pgSum_any ⟨#[87, 105, 107, 105, 112, 101, 100, 105, 97]⟩ w (by decide) 300286872 (Lib.hid wiki_S)
  have M := Lib.hid fun w => made_bytes w 256 256 (Nat.le_refl _) (by decide)
  have hzi : (S.size : Int) = 256 := by omega
  unfold helloT at *
  clear ho e1 e3 e4 e5 hz HS
  go_enter Tryd.func8, Tryd.ntmps8
  go_wp2_with fail
  refine (SE.out _).mono ?_
  rintro e w1 ⟨rfl, b1⟩
  go_wp2_with fail
  refine (O1.out _).mono ?_
  rintro e w2 ⟨rfl, b2⟩
  go_wp2_with fail
  refine (O2.out _).mono ?_
  rintro e w3 ⟨rfl, b3⟩
  have B3 := Lib.hid (chain (chain b1 b2) b3)
  clear b1 b2 b3
  obtain ⟨w4, hmk, hrow, hbel⟩ := M.out w3
  have hcv := hrow.conv 256 256 (by simp)
  have hmk' : (Instr.makeSlice 47 (.int .i64 256) (.int .i64 256)).run Tryd.prog w3 = .ok (.slice (some ⟨w3.heap.size, 0, none⟩) 256 256) w4 := hmk
  have hcv' : (convert 47 9 (.slice (some ⟨w3.heap.size, 0, none⟩) 256 256)).run Tryd.prog w4 = .ok (.string Z) w4 := by
    rw [hcv, ← HZ]
    rfl
  have B4 := Lib.hid (chain B3.out hbel)
  clear hmk hcv hrow hbel B3 HZ
  go_wp2_with fail
  refine (O3.out _).mono ?_
  rintro e w5 ⟨rfl, b5⟩
  have B5 := Lib.hid (chain B4.out b5)
  clear B4 b5
  go_wp2_with fail
  refine (SU.out _).mono ?_
  rintro e w6 ⟨rfl, rfl⟩
  go_wp2_with fail
  go_ret
  exact ⟨rfl, B5.out⟩
end Go.Proofs.YtojofakfnlofhaaDoor
