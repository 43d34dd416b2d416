/-
  Package page: a sector's bytes are made.
-/
import Derived.Test.YtbjmbndeaobbeaaDoorPgSum
import Derived.Test.YtbjmbndeaobbeaaDoorByRow
import Derived.StillTailTactics
import Derived.Outline
namespace Go.Proofs.YtbjmbndeaobbeaaDoor
open Go.RowKit
set_option linter.unusedVariables false
set_option linter.unusedSimpArgs false
def kindB (k : Int) : Bool := decide (1 ≤ k) && decide (k ≤ 15)
theorem kindB_iff (k : Int) : kindB k = true ↔ 1 ≤ k ∧ k ≤ 15 := by simp [kindB]
set_option maxHeartbeats 400000 in
theorem kind_is (k : Int) (v : Bool) (w : World) (hv : kindB k = v) :
    Calls Tryd.prog 54 #[.int .i64 k] w fun e w' => e = .returned (.bool v) ∧ w = w' := by
  have H := Lib.hid hv
  clear hv
  by_cases h : 1 ≤ k
  all_goals
    go_enter Tryd.func54, Tryd.ntmps54
    go_wp2
    go_ret
    refine ⟨?_, rfl⟩
    rw [← H.out]
    exact ret_bool (by rw [Bool.eq_iff_iff]; simp [kindB]; omega)
/-- May these be sealed? -/
def sealB (k : Int) (t : ByteArray) : Bool := kindB k && decide (t.size ≤ 240)
/-- What Seal answers. -/
def sealS (k : Int) (t : ByteArray) : ByteArray := if sealB k t = true then Str (pgL k.toNat t.data.toList) else ⟨#[]⟩
def sealE (k : Int) (t : ByteArray) : Int := if sealB k t = true then 0 else 1
set_option maxHeartbeats 1600000 in
theorem seal_no (k : Int) (t : ByteArray) (w : World) (h : sealB k t = false) :
    Calls Tryd.prog 44 #[.int .i64 k, .string t] w fun e w' => e = .returned (.tuple #[.string ⟨#[]⟩, .int .i64 1]) ∧ w = w' := by
  cases hk : kindB k
  · have HK := Lib.hid hk
    clear hk h
    go_enter Tryd.func44, Tryd.ntmps44
    go_wp2_with fail
    refine (kind_is k _ _ HK.out).mono ?_
    rintro e w1 ⟨rfl, rfl⟩
    go_wp2_with fail
    go_ret2
    exact ⟨rfl, rfl⟩
  · have ht : (240 : Int) < (t.size : Int) := by
      unfold sealB at h
      rw [hk] at h
      simp at h
      omega
    have HK := Lib.hid hk
    clear hk h
    go_enter Tryd.func44, Tryd.ntmps44
    go_wp2_with fail
    refine (kind_is k _ _ HK.out).mono ?_
    rintro e w1 ⟨rfl, rfl⟩
    go_wp2_with fail
    go_ret2
    exact ⟨rfl, rfl⟩
theorem seal_row (k n : Nat) (hn : n ≤ 240) (hk : k ≤ 15) (t : List UInt8) (ht : t.length = n) :
    (((List.replicate 256 (0 : UInt8)).set 0 (UInt8.ofNat k)).set 1 (UInt8.ofNat n)).take 2 ++ t ++ (((List.replicate 256 (0 : UInt8)).set 0 (UInt8.ofNat k)).set 1 (UInt8.ofNat n)).drop (2 + n) = pgBody k t ++ [0, 0, 0, 0] := by
  subst ht
  have e : ((List.replicate 256 (0 : UInt8)).set 0 (UInt8.ofNat k)).set 1 (UInt8.ofNat t.length) = UInt8.ofNat k :: UInt8.ofNat t.length :: List.replicate 254 0 := rfl
  rw [e]
  have e2 : (UInt8.ofNat k :: UInt8.ofNat t.length :: List.replicate 254 (0 : UInt8)).drop (2 + t.length) = List.replicate (254 - t.length) 0 := by
    rw [← List.drop_drop]
    show (List.replicate 254 (0 : UInt8)).drop t.length = _
    rw [List.drop_replicate]
  rw [e2]
  unfold pgBody
  have e3 : List.replicate (254 - t.length) (0 : UInt8) = List.replicate (250 - t.length) 0 ++ [0, 0, 0, 0] := by
    have : [(0 : UInt8), 0, 0, 0] = List.replicate 4 0 := rfl
    rw [this, List.replicate_append_replicate]
    congr 1
    omega
  rw [e3]
  show [UInt8.ofNat k, UInt8.ofNat t.length] ++ t ++ _ = _
  simp only [List.cons_append, List.nil_append, List.append_assoc]
theorem kept_conv {wr a b : World} {v : Value} {s : ByteArray} (h : Below wr.heap.size wr a ∧ (convert 85 9 v).run Tryd.prog a = .ok (.string s) a) (hb : Below a.heap.size a b)
    (H : ∀ w', Below wr.heap.size wr w' → (convert 85 9 v).run Tryd.prog w' = .ok (.string s) w') : Below wr.heap.size wr b ∧ (convert 85 9 v).run Tryd.prog b = .ok (.string s) b :=
  ⟨chain h.1 hb, H _ (chain h.1 hb)⟩
set_option maxHeartbeats 3200000 in
set_option maxRecDepth 20000 in
theorem seal_yes (k : Nat) (t : ByteArray) (w : World) (h1 : 1 ≤ k) (h2 : k ≤ 15) (h3 : t.size ≤ 240) (S : ByteArray) (HS : Hid (Str (pgL k t.data.toList) = S)) :
    Calls Tryd.prog 44 #[.int .i64 (k : Int), .string t] w fun e w' => e = .returned (.tuple #[.string S, .int .i64 0]) ∧ Below w.heap.size w w' := by
  have HK : Hid (kindB (k : Int) = true) := Lib.hid ((kindB_iff _).2 (by omega))
  obtain ⟨w2, hmk, hrow, hbel⟩ := made_bytes w 252 256 (by decide) (by decide)
  have hmk' : (Instr.makeSlice 85 (.int .i64 252) (.int .i64 256)).run Tryd.prog w = .ok (.slice (some ⟨w.heap.size, 0, none⟩) 252 256) w2 := hmk
  have hsz : w.heap.size < w2.heap.size := hrow.lt
  have c0 : w2.cell? ⟨w.heap.size, 0, none⟩ = some (.int .u8 0) := hrow.cell 0 (by simp)
  have c1 : w2.cell? ⟨w.heap.size, 1, none⟩ = some (.int .u8 0) := hrow.cell 1 (by simp)
  have f0 := hrow.free 0
  have f1 := hrow.free 1
  have HR : Hid (Byt 5 ((w2.setCell ⟨w.heap.size, 0, none⟩ (.int .u8 (k : Int))).setCell ⟨w.heap.size, 1, none⟩ (.int .u8 (t.size : Int))) w.heap.size (((List.replicate 256 (0 : UInt8)).set 0 (UInt8.ofNat k)).set 1 (UInt8.ofNat t.size))) := Lib.hid (by
    have := (hrow.set 0 (UInt8.ofNat k)).set 1 (UInt8.ofNat t.size)
    have e1 : vb (UInt8.ofNat k) = .int .u8 (k : Int) := by unfold vb; rw [UInt8.toNat_ofNat', Nat.mod_eq_of_lt (by omega)]
    have e2 : vb (UInt8.ofNat t.size) = .int .u8 (t.size : Int) := by unfold vb; rw [UInt8.toNat_ofNat', Nat.mod_eq_of_lt (by omega)]
    rwa [e1, e2] at this)
  have HB : Hid (Below w.heap.size w ((w2.setCell ⟨w.heap.size, 0, none⟩ (.int .u8 (k : Int))).setCell ⟨w.heap.size, 1, none⟩ (.int .u8 (t.size : Int)))) := Lib.hid ((hbel.setCell (Nat.le_refl _) _).setCell (Nat.le_refl _) _)
  generalize hWA : (w2.setCell ⟨w.heap.size, 0, none⟩ (.int .u8 (k : Int))).setCell ⟨w.heap.size, 1, none⟩ (.int .u8 (t.size : Int)) = wA at HR HB
  have hcp := Lib.run_copy_row_string (P := Tryd.prog) wA 85 9 3 5 w.heap.size 2 250 254 t (By (((List.replicate 256 (0 : UInt8)).set 0 (UInt8.ofNat k)).set 1 (UInt8.ofNat t.size))) 5 Tryd.underlying85 (by kernel_rfl) HR.out (by omega) (by rw [By_size]; simp; omega)
  obtain ⟨w3, hw3⟩ : ∃ w3, wA.setRow w.heap.size ((By (((List.replicate 256 (0 : UInt8)).set 0 (UInt8.ofNat k)).set 1 (UInt8.ofNat t.size))).toList.take 2 ++ Lib.byteCells t.data.toList ++ (By (((List.replicate 256 (0 : UInt8)).set 0 (UInt8.ofNat k)).set 1 (UInt8.ofNat t.size))).toList.drop (2 + t.size)).toArray = w3 := ⟨_, rfl⟩
  have HR3 : Hid (Byt 5 w3 w.heap.size (pgBody k t.data.toList ++ [0, 0, 0, 0])) := Lib.hid (by
    have h := setRow_heap wA w.heap.size _ ((By (((List.replicate 256 (0 : UInt8)).set 0 (UInt8.ofNat k)).set 1 (UInt8.ofNat t.size))).toList.take 2 ++ Lib.byteCells t.data.toList ++ (By (((List.replicate 256 (0 : UInt8)).set 0 (UInt8.ofNat k)).set 1 (UInt8.ofNat t.size))).toList.drop (2 + t.size)).toArray _ (0, 0) HR.out
    rw [hw3] at h
    unfold Byt
    rw [h, ← seal_row k t.size h3 h2 t.data.toList (by simp)]
    congr 2
    apply Array.ext'
    simp only [By, Lib.byteCells, List.map_append, List.map_take, List.map_drop]
    rfl)
  have HB3 : Hid (Below w.heap.size w w3) := Lib.hid (by rw [← hw3]; exact below_setRow HB.out (Nat.le_refl _) _)
  rw [hw3] at hcp
  rw [← hWA] at hcp
  have hl : (pgBody k t.data.toList).length = 252 := pgBody_length k _ (by simpa using h3)
  have CV : Hid (∀ w', Below w3.heap.size w3 w' → (convert 85 9 (.slice (some ⟨w.heap.size, 0, none⟩) 252 256)).run Tryd.prog w' = .ok (.string (Str (pgBody k t.data.toList))) w') := Lib.hid fun w' hb => by
    have := (HR3.out.below hb).conv 252 256 (by simp [hl])
    rwa [← hl, List.take_left' rfl, hl] at this
  obtain ⟨Y, HY⟩ : ∃ Y, Hid (Str (four (adS (pgBody k t.data.toList))) = Y) := ⟨_, Lib.hid rfl⟩
  have HYz : Y.size = 4 := by rw [← HY.out, Str_size, four_length]
  obtain ⟨X, HX⟩ : ∃ X, Hid (Str (pgBody k t.data.toList) = X) := ⟨_, Lib.hid rfl⟩
  have HXz : X.size = 252 := by rw [← HX.out, Str_size, hl]
  have HXY : Hid (X ++ Y = S) := Lib.hid (by
    rw [← HX.out, ← HY.out, ← HS.out, Str_append, Str_list]; rfl)
  have HYX : Hid (Str (four (adS X.data.toList)) = Y) := Lib.hid (by rw [← HX.out, Str_list]; exact HY.out)
  rw [HX.out] at CV
  have B0 : Below w3.heap.size w3 w3 := Below.refl _ _
  have C0 := CV.out w3 B0
  clear hmk hrow hbel HR HB hWA hw3 HR3 hl HX HY HS
  go_enter Tryd.func44, Tryd.ntmps44
  go_wp2_with fail
  refine (kind_is k _ _ HK.out).mono ?_
  rintro e w1 ⟨rfl, rfl⟩
  go_wp2_with fail
  have s1 : (X.size : Int) + (Y.size : Int) ≤ 9223372036854775807 := by omega
  have s2 : (9223372036854775807 < X.size + Y.size) = False := by rw [eq_iff_iff, iff_false]; omega
  first | (go_region_held3 (fun w' => Below w3.heap.size w3 w' ∧ (convert 85 9 (.slice (some ⟨w.heap.size, 0, none⟩) 252 256)).run Tryd.prog w' = .ok (.string X) w') (first | exact ⟨B0.drew, CV.out _ B0.drew⟩ | exact kept_conv ⟨B0.drew, CV.out _ B0.drew⟩ b9 CV.out | exact kept_conv (by assumption) b9 CV.out) ((first | (go_at_call 55; refine (pgBytes_any _ _ (by omega) _ HYX).mono ?_; rintro e w9 ⟨rfl, b9⟩)))) | fail
  all_goals
    rename_i hH
    have hfin := chain HB3.out hH.1
    go_wp2_with fail
    go_ret2
    exact ⟨by rw [← HXY.out]; rfl, hfin⟩
end Go.Proofs.YtbjmbndeaobbeaaDoor
