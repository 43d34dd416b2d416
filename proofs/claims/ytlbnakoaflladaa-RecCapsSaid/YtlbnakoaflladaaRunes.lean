/-
  The runes of a text: plain mathematics.
-/
import Derived.Test.YtlbnakoaflladaaOwn
import Derived.Lib.MapLaws
namespace Go.Proofs.Ytlbnakoaflladaa
open Go.RowKit
set_option linter.unusedVariables false

/-- The rune in front, and the bytes that it takes. -/
def dR (l : List UInt8) : Nat := (Lib.decodeL l).1
def dW (l : List UInt8) : Nat := (Lib.decodeL l).2
theorem dW_pos (l : List UInt8) : 1 ≤ dW l := Lib.decodeL_width l
theorem dR_le (l : List UInt8) : dR l ≤ 1114111 := Lib.decodeL_rune l
theorem dW_le (l : List UInt8) (h : l ≠ []) : dW l ≤ l.length := Lib.decodeL_le l h
def rsF : Nat → List UInt8 → List Nat
  | 0, _ => []
  | f + 1, l => if l = [] then [] else dR l :: rsF f (l.drop (dW l))
theorem rsF_nil (f : Nat) : rsF f [] = [] := by cases f <;> simp [rsF]
theorem rsF_fuel : ∀ (n m : Nat) (l : List UInt8), l.length ≤ n → l.length ≤ m → rsF n l = rsF m l
  | 0, m, l, hn, _ => by
    have : l = [] := List.eq_nil_of_length_eq_zero (by omega)
    subst this
    rw [rsF_nil, rsF_nil]
  | n + 1, 0, l, _, hm => by
    have : l = [] := List.eq_nil_of_length_eq_zero (by omega)
    subst this
    rw [rsF_nil, rsF_nil]
  | n + 1, m + 1, l, hn, hm => by
    by_cases hne : l = []
    · subst hne
      rw [rsF_nil, rsF_nil]
    · have hw := dW_pos l
      have hl : 0 < l.length := List.length_pos_iff.2 hne
      simp only [rsF, if_neg hne]
      rw [rsF_fuel n m _ (by rw [List.length_drop]; omega) (by rw [List.length_drop]; omega)]
/-- The runes of these bytes. -/
def rs (l : List UInt8) : List Nat := rsF l.length l
theorem rs_nil : rs [] = [] := rfl
theorem rs_step (l : List UInt8) (hne : l ≠ []) : rs l = dR l :: rs (l.drop (dW l)) := by
  have hw := dW_pos l
  have hl : 0 < l.length := List.length_pos_iff.2 hne
  unfold rs
  obtain ⟨n, hn⟩ : ∃ n, l.length = n + 1 := ⟨l.length - 1, by omega⟩
  rw [hn]
  simp only [rsF, if_neg hne]
  rw [rsF_fuel n _ _ (by rw [List.length_drop]; omega) (Nat.le_refl _)]
/-- An induction over runes. -/
theorem runes_ind {P : List UInt8 → Prop} (h0 : P []) (h1 : ∀ l, l ≠ [] → P (l.drop (dW l)) → P l) : ∀ l, P l := by
  suffices h : ∀ n l, l.length ≤ n → P l from fun l => h l.length l (Nat.le_refl _)
  intro n
  induction n with
  | zero => intro l hl; rw [List.eq_nil_of_length_eq_zero (Nat.le_zero.1 hl)]; exact h0
  | succ n ih =>
    intro l hl
    by_cases hne : l = []
    · rw [hne]; exact h0
    · apply h1 l hne
      apply ih
      have := dW_pos l
      have : 0 < l.length := List.length_pos_iff.2 hne
      rw [List.length_drop]
      omega
theorem rs_length (l : List UInt8) : (rs l).length ≤ l.length := by
  induction l using runes_ind with
  | h0 => exact Nat.le_refl _
  | h1 l hne ih =>
    have hw := dW_pos l
    have hl : 0 < l.length := List.length_pos_iff.2 hne
    rw [rs_step l hne, List.length_cons]
    rw [List.length_drop] at ih
    omega
theorem rs_le (l : List UInt8) : ∀ r ∈ rs l, r ≤ 1114111 := by
  induction l using runes_ind with
  | h0 => simp [rs_nil]
  | h1 l hne ih =>
    intro r hr
    rw [rs_step l hne] at hr
    rcases List.mem_cons.1 hr with rfl | h
    · exact dR_le l
    · exact ih r h
/-- What is left of a text at a place. -/
def RS (s : ByteArray) (pos : Nat) : List Nat := rs (s.data.toList.drop pos)
def sR (s : ByteArray) (pos : Nat) : Nat := dR (s.data.toList.drop pos)
def sW (s : ByteArray) (pos : Nat) : Nat := dW (s.data.toList.drop pos)
theorem sR_decode (s : ByteArray) (pos : Nat) : (Utf8.decode s pos).1 = sR s pos := by unfold sR dR; rw [Lib.decodeL_drop]
theorem sW_decode (s : ByteArray) (pos : Nat) : (Utf8.decode s pos).2 = sW s pos := by unfold sW dW; rw [Lib.decodeL_drop]
theorem drop_ne (s : ByteArray) (pos : Nat) (h : pos < s.size) : s.data.toList.drop pos ≠ [] := by
  intro h0
  have := congrArg List.length h0
  rw [List.length_drop, size_list] at this
  simp at this
  omega
theorem sW_pos (s : ByteArray) (pos : Nat) : 1 ≤ sW s pos := dW_pos _
theorem sW_le (s : ByteArray) (pos : Nat) (h : pos < s.size) : pos + sW s pos ≤ s.size := by
  have := dW_le _ (drop_ne s pos h)
  rw [List.length_drop, size_list] at this
  unfold sW
  omega
theorem sR_le (s : ByteArray) (pos : Nat) : sR s pos ≤ 1114111 := dR_le _
theorem RS_step (s : ByteArray) (pos : Nat) (h : pos < s.size) : RS s pos = sR s pos :: RS s (pos + sW s pos) := by
  unfold RS
  rw [rs_step _ (drop_ne s pos h), List.drop_drop]
  rfl
theorem RS_end (s : ByteArray) (pos : Nat) (h : s.size ≤ pos) : RS s pos = [] := by
  unfold RS
  rw [List.drop_eq_nil_of_le (by rw [size_list]; exact h), rs_nil]
theorem RS_length (s : ByteArray) (pos : Nat) : (RS s pos).length ≤ s.size - pos := by
  have := rs_length (s.data.toList.drop pos)
  rwa [List.length_drop, size_list] at this
/-- One step of a range over a text. -/
theorem next_rune (w : World) (b : Nat) (s : ByteArray) (pos : Nat) (ty : TypeId) (hk : w.heap[b]? = some (.stringIter s pos)) (h : pos < s.size) :
    (Instr.next (.pointer (some ⟨b, 0, none⟩)) true ty).run Try.prog w = .ok (.tuple #[.bool true, .int .i64 pos, .int .i32 (sR s pos)]) (w.iterAt b s (pos + sW s pos)) := by
  rw [← sR_decode, ← sW_decode]
  exact Lib.run_next_any_at (P := Try.prog) w b s pos ty hk h
/-- The bytes of a rune: a small one is its byte; else each of them is great. -/
theorem rune_bytes (l : List UInt8) (hne : l ≠ []) : (dR l < 128 ∧ dW l = 1 ∧ l.take 1 = [UInt8.ofNat (dR l)] ∧ (l.getD 0 0).toNat = dR l) ∨ (128 ≤ dR l ∧ ∀ c ∈ l.take (dW l), 128 ≤ c.toNat) := by
  have hl : 0 < l.length := List.length_pos_iff.2 hne
  have k0 := (l.getD 0 0).toNat_lt
  have k1 := (l.getD 1 0).toNat_lt
  have k2 := (l.getD 2 0).toNat_lt
  have k3 := (l.getD 3 0).toNat_lt
  unfold dR dW
  rw [Lib.decodeL_N]
  rcases Lib.decodeN_shape l.length (l.getD 0 0).toNat (l.getD 1 0).toNat (l.getD 2 0).toNat (l.getD 3 0).toNat with ⟨c, e⟩ | ⟨c1, c2, c3, cv, e⟩ | ⟨c1, c2, c3, c4, cv, cs, e⟩ | ⟨c1, c2, c3, c4, c5, cv, cw, e⟩ | e
  · left
    rw [e]
    refine ⟨c, rfl, ?_, rfl⟩
    rw [Lib.takeA l hl]
    simp
  · right
    rw [e, Lib.takeB l c2]
    refine ⟨by omega, fun c hc => ?_⟩
    simp only [List.mem_cons, List.not_mem_nil, or_false] at hc
    rcases hc with rfl | rfl <;> omega
  · right
    rw [e, Lib.takeC l c2]
    refine ⟨by simp only; omega, fun c hc => ?_⟩
    simp only [List.mem_cons, List.not_mem_nil, or_false] at hc
    rcases hc with rfl | rfl | rfl <;> omega
  · right
    rw [e, Lib.takeD l c2]
    refine ⟨by simp only; omega, fun c hc => ?_⟩
    simp only [List.mem_cons, List.not_mem_nil, or_false] at hc
    rcases hc with rfl | rfl | rfl | rfl <;> omega
  · right
    rw [e]
    refine ⟨by simp, fun c hc => ?_⟩
    rw [Lib.takeA l hl] at hc
    simp only [List.mem_cons, List.not_mem_nil, or_false] at hc
    subst hc
    by_cases h : (l.getD 0 0).toNat < 128
    · have := Lib.decodeN_ascii l.length (l.getD 0 0).toNat (l.getD 1 0).toNat (l.getD 2 0).toNat (l.getD 3 0).toNat h
      rw [this] at e
      have := congrArg Prod.fst e
      simp only at this
      omega
    · omega
theorem enc_two (r : Nat) (h1 : 128 ≤ r) (h2 : r < 2048) : (Utf8.encode (r : Int)).data.toList = [UInt8.ofNat (192 + r / 64), UInt8.ofNat (128 + r % 64)] := by
  have v : Utf8.valid (r : Int) = true := by simp [Utf8.valid]; omega
  have n1 : ¬ r < 128 := by omega
  simp [Utf8.encode, v, n1, h2]
/-- A rune of two bytes, written. -/
theorem two_bytes (l : List UInt8) (hne : l ≠ []) (h1 : 128 ≤ dR l) (h2 : dR l < 2048) : (Utf8.encode (dR l : Int)).data.toList = l.take (dW l) := by
  have hl : 0 < l.length := List.length_pos_iff.2 hne
  have k0 := (l.getD 0 0).toNat_lt
  have k1 := (l.getD 1 0).toNat_lt
  have k2 := (l.getD 2 0).toNat_lt
  have k3 := (l.getD 3 0).toNat_lt
  unfold dR dW at *
  rw [Lib.decodeL_N] at *
  rcases Lib.decodeN_shape l.length (l.getD 0 0).toNat (l.getD 1 0).toNat (l.getD 2 0).toNat (l.getD 3 0).toNat with ⟨c, e⟩ | ⟨c1, c2, c3, cv, e⟩ | ⟨c1, c2, c3, c4, cv, cs, e⟩ | ⟨c1, c2, c3, c4, c5, cv, cw, e⟩ | e
  · rw [e] at h1; simp only at h1; omega
  · rw [e] at h1 h2 ⊢
    simp only at h1 h2 ⊢
    rw [Lib.takeB l c2, enc_two _ h1 h2]
    have e0 : 192 + ((l.getD 0 0).toNat % 32 * 64 + (l.getD 1 0).toNat % 64) / 64 = (l.getD 0 0).toNat := by omega
    have e1 : 128 + ((l.getD 0 0).toNat % 32 * 64 + (l.getD 1 0).toNat % 64) % 64 = (l.getD 1 0).toNat := by omega
    rw [e0, e1, UInt8.ofNat_toNat, UInt8.ofNat_toNat]
  · rw [e] at h2; simp only at h2; omega
  · rw [e] at h2; simp only at h2; omega
  · rw [e] at h2; simp only at h2; omega
end Go.Proofs.Ytlbnakoaflladaa
