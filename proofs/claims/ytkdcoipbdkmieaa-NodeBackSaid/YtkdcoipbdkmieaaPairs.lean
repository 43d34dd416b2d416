/-
  A slice of pairs (a key, a value) that comes in, opened.
-/
import Derived.Test.YtkdcoipbdkmieaaNodeG
import Derived.Deep.SlicePairs
import Derived.Deep.Fields
import Derived.OpenShut
namespace Go.Proofs.Ytkdcoipbdkmieaa
open Go.RowKit Go.ChangeShapes Go.WideShapes Go.Deep
set_option linter.unusedVariables false
/-- A slice of pairs that came in. -/
def IsPairs (w : World) (a : Option Addr) (len : Nat) : Prop := ∃ L : List (Int × ByteArray), L.length = len ∧ Prs w a L ∧ (∀ p ∈ L, 0 ≤ p.1 ∧ p.1 ≤ 18446744073709551615) ∧ ∀ p ∈ L, p.2.size ≤ 9223372036854775807
theorem exists_list {α : Type} (P : Nat → α → Prop) : ∀ n, (∀ i, i < n → ∃ p, P i p) → ∃ L : List α, L.length = n ∧ ∀ i (h : i < L.length), P i L[i] := by
  intro n
  induction n with
  | zero => exact fun _ => ⟨[], rfl, fun i h => absurd h (Nat.not_lt_zero _)⟩
  | succ n ih =>
    intro h
    obtain ⟨L, hl, hL⟩ := ih fun i hi => h i (by omega)
    obtain ⟨p, hp⟩ := h n (by omega)
    refine ⟨L ++ [p], by simp [hl], fun i hi => ?_⟩
    by_cases hin : i < L.length
    · rw [List.getElem_append_left hin]; exact hL i hin
    · have : i = n := by rw [List.length_append] at hi; simp at hi; omega
      subst this
      rw [List.getElem_append_right (by omega)]
      simpa [hl] using hp
theorem u64_rng (k : Int) (h : (Lit.int .u64 k).wf = true) : 0 ≤ k ∧ k ≤ 18446744073709551615 := by
  simp [Lit.wf] at h
  have h1 : IntKind.u64.min = 0 := by rfl
  have h2 : IntKind.u64.max = 18446744073709551615 := by rfl
  omega
theorem len_rng {n : Nat} (h : n ≤ maxLen) : n ≤ 9223372036854775807 := by unfold maxLen at h; omega
/-- What stands at place j. -/
def PairAt (w : World) (y : Addr) (j : Nat) (p : Int × ByteArray) : Prop :=
  w.cell? (y.add (j * 2)) = some (.int .u64 p.1) ∧ w.cell? ⟨(y.add (j * 2)).block, (y.add (j * 2)).off + 1, none⟩ = some (.string p.2) ∧ (0 ≤ p.1 ∧ p.1 ≤ 18446744073709551615) ∧ p.2.size ≤ 9223372036854775807
theorem pairs_of {w : World} {y : Addr} {len : Nat} (h : ∀ i, i < len → ∃ p, PairAt w y i p) : IsPairs w (some y) len := by
  obtain ⟨L, hl, hL⟩ := exists_list (PairAt w y) len h
  refine ⟨L, hl, ?_, ?_, ?_⟩
  · by_cases h0 : L = []
    · exact .inl h0
    · have hp : 0 < L.length := List.length_pos_iff.2 h0
      obtain ⟨b, off, sp⟩ := y
      have hc := (hL 0 hp).1
      have hsp : sp = none := by
        cases sp with
        | none => rfl
        | some k => simp [Addr.add, World.cell?] at hc; split at hc <;> simp at hc
      subst hsp
      refine .inr ⟨b, off, rfl, ?_, fun i hi => ?_⟩
      · rw [addr_add] at hc
        by_cases hb : b < w.heap.size
        · exact hb
        · exfalso
          have e : w.heap[b]? = none := Array.getElem?_eq_none (by omega)
          simp [World.cell?, e] at hc
      · have h1 := (hL i hi).1
        have h2 := (hL i hi).2.1
        rw [addr_add] at h1 h2
        exact ⟨h1, h2⟩
  · intro p hp
    obtain ⟨i, hi, rfl⟩ := List.mem_iff_getElem.1 hp
    exact (hL i hi).2.2.1
  · intro p hp
    obtain ⟨i, hi, rfl⟩ := List.mem_iff_getElem.1 hp
    exact (hL i hi).2.2.2
section
variable {H : Type} {enc : TypeId × Value → H} {w : World} {base : Nat} {held : Bool}
set_option maxRecDepth 20000 in
theorem open_keyed {fuel : Nat} {cs : List Value} {x : DataW H × List MemPlace} (h : DataW.trod enc Try.prog w base (fun _ => true) held fuel 53 cs = some x) :
    cs = [.slice none 0 0] ∨ ∃ (a : Addr) (len cap : Nat), cs = [.slice (some a) len cap] ∧ len ≤ cap ∧ cap ≤ maxLen ∧ ∀ i, i < len → ∃ p, PairAt w a i p := by
  rcases open_slice Try.underlying53 h with ⟨h0, _⟩ | ⟨a, len, cap, m, n, D, Pl, rfl, hb, hl, hm, hmm, rfl, hx⟩
  · exact .inl h0
  refine .inr ⟨a, len, cap, rfl, hl, hm, fun i hi => ?_⟩
  have hlm : len ≤ m := by rw [hmm]; split <;> omega
  obtain ⟨cs', h1, h2⟩ := hx i (by omega)
  have ce : Try.prog.cellsOf 65 = 2 := by kernel_rfl
  rw [ce] at h1
  obtain ⟨_, hlen, hcell⟩ := World.cells?_some h1
  obtain ⟨xs, k, hk, hxy, _, hxl, hf⟩ := DataW.trod_struct Try.underlying65 h2
  match xs, hxl, cs', hlen with
  | [y0, y1], _, [v0, v1], _ =>
    have g0 : DataW.trod enc Try.prog w base (fun _ => true) held k 27 [v0] = some y0 := hf 0 _ rfl
    have g1 : DataW.trod enc Try.prog w base (fun _ => true) held k 9 [v1] = some y1 := hf 1 _ rfl
    have e0 := hcell 0 (by omega)
    have e1 := hcell 1 (by omega)
    obtain ⟨kd, d0, _, w0⟩ := DataW.trod_int Try.underlying27 g0
    obtain ⟨s, d1, _, w1⟩ := DataW.trod_string Try.underlying9 g1
    obtain rfl := (List.cons.inj d0).1
    obtain rfl := (List.cons.inj d1).1
    exact ⟨(kd, s), e0, e1, u64_rng kd w0, len_rng w1⟩
end
end Go.Proofs.Ytkdcoipbdkmieaa
