/-
  What is folded: plain mathematics.
-/
import Derived.Test.YtlbnakoaflladaaFold
namespace Go.Proofs.Ytlbnakoaflladaa
open Go.RowKit
set_option linter.unusedVariables false

theorem decodeN_two (n b0 b1 b2 b3 : Nat) (h0 : b0 / 32 = 6) (hn : 1 < n) (h1 : b1 / 64 = 2) (hv : 128 ≤ b0 % 32 * 64 + b1 % 64) : Lib.decodeN n b0 b1 b2 b3 = (b0 % 32 * 64 + b1 % 64, 2) := by
  unfold Lib.decodeN
  rw [if_neg (by omega), if_pos ⟨h0, hn, h1⟩, if_pos hv]
def val2 (a b : UInt8) : Nat := a.toNat % 32 * 64 + b.toNat % 64
theorem rs_one (c : UInt8) (t : List UInt8) (h : c.toNat < 128) : rs (c :: t) = c.toNat :: rs t := by
  have hd : Lib.decodeL (c :: t) = (c.toNat, 1) := by
    rw [Lib.decodeL_N]
    exact Lib.decodeN_ascii _ _ _ _ _ h
  rw [rs_step _ (by simp)]
  unfold dR dW
  rw [hd]
  rfl
theorem rs_two (a b : UInt8) (t : List UInt8) (h0 : a.toNat / 32 = 6) (h1 : b.toNat / 64 = 2) (hv : 128 ≤ val2 a b) : rs (a :: b :: t) = val2 a b :: rs t := by
  have hd : Lib.decodeL (a :: b :: t) = (val2 a b, 2) := by
    rw [Lib.decodeL_N]
    exact decodeN_two _ _ _ _ _ h0 (by simp) h1 hv
  rw [rs_step _ (by simp)]
  unfold dR dW
  rw [hd]
  rfl
theorem head_cases (l : List UInt8) (hne : l ≠ []) (h : dR l < 2048) : (∃ c t, l = c :: t ∧ c.toNat < 128 ∧ dR l = c.toNat ∧ dW l = 1) ∨ (∃ a b t, l = a :: b :: t ∧ a.toNat / 32 = 6 ∧ b.toNat / 64 = 2 ∧ 128 ≤ val2 a b ∧ dR l = val2 a b ∧ dW l = 2) := by
  have hl : 0 < l.length := List.length_pos_iff.2 hne
  unfold dR dW at *
  rw [Lib.decodeL_N] at *
  rcases Lib.decodeN_shape l.length (l.getD 0 0).toNat (l.getD 1 0).toNat (l.getD 2 0).toNat (l.getD 3 0).toNat with ⟨c, e⟩ | ⟨c1, c2, c3, cv, e⟩ | ⟨c1, c2, c3, c4, cv, cs, e⟩ | ⟨c1, c2, c3, c4, c5, cv, cw, e⟩ | e
  · left
    match l, hl with
    | x :: t, _ => exact ⟨x, t, rfl, c, by rw [e]; rfl, by rw [e]⟩
  · right
    match l, c2 with
    | x :: y :: t, _ => exact ⟨x, y, t, rfl, c1, c3, cv, by rw [e]; rfl, by rw [e]⟩
  · rw [e] at h; simp only at h; omega
  · rw [e] at h; simp only at h; omega
  · rw [e] at h; simp only at h; omega
theorem ok_small (r : Nat) (h : okR r = true) : r < 2048 := by unfold okR at h; simp at h; omega
/-- The runes of a label made small are its runes made small. -/
theorem rs_low (l : List UInt8) : (∀ r ∈ rs l, okR r = true) → rs (l.map lowB) = (rs l).map lowR := by
  induction l using runes_ind with
  | h0 => intro _; rfl
  | h1 l hne ih =>
    intro hok
    have hs := rs_step l hne
    rw [hs] at hok
    have h0 := ok_small _ (hok (dR l) (by simp))
    have hr : ∀ r ∈ rs (l.drop (dW l)), okR r = true := fun r hr => hok r (by simp [hr])
    have ih2 := ih hr
    rcases head_cases l hne h0 with ⟨c, t, rfl, hc, e1, e2⟩ | ⟨a, b, t, rfl, ha, hb, hv, e1, e2⟩
    · rw [e2] at ih2
      simp only [List.drop_succ_cons, List.drop_zero] at ih2
      rw [List.map_cons, rs_one _ _ (by rw [lowB_toNat]; unfold lowR; split <;> omega), rs_one _ _ hc, ih2, lowB_toNat]
      rfl
    · rw [e2] at ih2
      simp only [List.drop_succ_cons, List.drop_zero] at ih2
      have la : lowB a = a := lowB_great a (by omega)
      have lb : lowB b = b := lowB_great b (by omega)
      rw [List.map_cons, List.map_cons, la, lb, rs_two _ _ _ ha hb hv, rs_two _ _ _ ha hb hv, ih2, List.map_cons]
      congr 1
      unfold lowR; rw [if_neg (by omega)]
theorem ok_low (r : Nat) : okR (lowR r) = okR r := by
  unfold okR lowR
  rw [decide_eq_decide]
  split <;> omega
theorem edge_low (r : Nat) : edgeR (lowR r) = edgeR r := by
  unfold edgeR lowR
  rw [decide_eq_decide]
  split <;> omega
theorem point_low (r : Nat) : lowR r = 46 ↔ r = 46 := by unfold lowR; split <;> omega
theorem low_low (r : Nat) : lowR (lowR r) = lowR r := by
  unfold lowR
  split
  · rw [if_neg (by omega)]
  · rfl
theorem rgo_low (L : List Nat) (c t : Nat) : rfin (rgo (L.map lowR) c (lowR t)) = rfin (rgo L c t) := by
  induction L generalizing c t with
  | nil => simp only [List.map_nil, rgo, rfin, edge_low]
  | cons r L ih =>
    simp only [List.map_cons, rgo, ok_low, edge_low, point_low]
    split
    · rfl
    · exact ih (c + 1) r
theorem rgo_len (L : List Nat) (c t : Nat) (h : rfin (rgo L c t) = true) : c + L.length ≤ 16 := by
  induction L generalizing c t with
  | nil => simp [rgo, rfin] at h; simp; omega
  | cons r L ih =>
    rw [rgo] at h
    split at h
    · simp [rfin] at h
    · have := ih _ _ h
      simp; omega
theorem RS_str (l : List UInt8) : RS (Str l) 0 = rs l := by unfold RS; rw [Str_list, List.drop_zero]
theorem RS_zero (s : ByteArray) : RS s 0 = rs s.data.toList := by unfold RS; rw [List.drop_zero]
theorem foldB_yes (s : ByteArray) (h : rightB s = true) : foldB s = Str (s.data.toList.map lowB) := by unfold foldB; rw [h]; rfl
theorem Str_get (l : List UInt8) (j : Nat) (h : j < (Str l).size) : (Str l)[j]'h = l[j]'(by rwa [Str_size] at h) := by simp [Str, ByteArray.getElem_eq_getElem_data]
/-- What is folded. -/
structure Folded (s f : ByteArray) : Prop where
  right : rightB f = true
  again : foldB f = f
  size : f.size = s.size
  runes : (RS f 0).length = (RS s 0).length
  most : (RS f 0).length ≤ 16
  least : 1 ≤ (RS f 0).length
  small : ∀ j (h : j < f.size), (f[j]'h).toNat < 65 ∨ 90 < (f[j]'h).toNat
theorem folded (s : ByteArray) (h : rightB s = true) : Folded s (foldB s) := by
  have ⟨h1, h2, h3⟩ := right_all s h
  have hok := rgo_ok _ _ _ h3
  rw [RS_zero] at hok h3
  have e : foldB s = Str (s.data.toList.map lowB) := by unfold foldB; rw [h]; rfl
  have er : RS (foldB s) 0 = (rs s.data.toList).map lowR := by rw [e, RS_str, rs_low _ hok]
  have es : (foldB s).size = s.size := by rw [e, Str_size, List.length_map, size_list]
  have hr : rightB (foldB s) = true := by
    rw [rightB_in _ (by omega) (by omega), er]
    have := rgo_low (rs s.data.toList) 0 0
    rw [show lowR 0 = 0 from rfl] at this
    rw [this]; exact h3
  refine ⟨hr, ?_, es, by rw [er, List.length_map, RS_zero], ?_, ?_, ?_⟩
  · rw [foldB_yes _ hr, e, Str_list, List.map_map]
    congr 1
    apply List.map_congr_left
    intro c _
    apply UInt8.toNat_inj.1
    simp only [Function.comp]
    rw [lowB_toNat, lowB_toNat, low_low]
  · rw [er, List.length_map]
    have := rgo_len _ _ _ h3
    omega
  · rw [er, List.length_map]
    have : s.data.toList ≠ [] := by
      intro h0
      have := size_list s
      rw [h0] at this
      simp at this; omega
    rw [rs_step _ this]
    simp
  · rw [e]
    intro j hj
    have hj' : j < s.data.toList.length := by rw [Str_size, List.length_map] at hj; exact hj
    rw [Str_get, List.getElem_map, lowB_toNat]
    unfold lowR
    split <;> omega
theorem foldB_no (s : ByteArray) (h : rightB s = false) : foldB s = ⟨#[]⟩ := by unfold foldB; rw [h]; rfl
end Go.Proofs.Ytlbnakoaflladaa
