/-
  Slices of one-cell elements that are read: what they read as; cut; appended to a row of the call's own.
-/
import Derived.Test.YtlbnakoaflladaaSup
import Derived.Laws.AppendOwn
import Derived.Lib.SmallJoins
import Derived.Deep.AppendSrc
namespace Go.Proofs.Ytlbnakoaflladaa
open Go.RowKit
set_option linter.unusedVariables false
set_option linter.unusedSimpArgs false
/-- A slice's address leads to these cells, one behind the other (without any it may be whatever). -/
def Rd (w : World) (a : Option Addr) (L : List Value) : Prop :=
  L = [] ∨ ∃ b off, a = some ⟨b, off, none⟩ ∧ b < w.heap.size ∧ ∀ i u, L[i]? = some u → w.cell? ⟨b, off + i, none⟩ = some u
theorem Rd.nil (w : World) (a : Option Addr) : Rd w a [] := .inl rfl
theorem Rd.below {w w' : World} {a : Option Addr} {L : List Value} (h : Rd w a L) (hb : Below w.heap.size w w') : Rd w' a L := by
  rcases h with h | ⟨b, off, h1, h2, h3⟩
  · exact .inl h
  · exact .inr ⟨b, off, h1, Nat.lt_of_lt_of_le h2 hb.size, fun i u hu => (hb.cell (p := ⟨b, off + i, none⟩) h2).trans (h3 i u hu)⟩
theorem Rd.drewN {w : World} {a : Option Addr} {L : List Value} (h : Rd w a L) (n : Nat) : Rd (w.drewN n) a L := h
/-- Where there is an element there is an address. -/
theorem Rd.at {w : World} {a : Option Addr} {L : List Value} (h : Rd w a L) (i : Nat) (hi : i < L.length) : ∃ b off, a = some ⟨b, off, none⟩ ∧ b < w.heap.size ∧ w.cell? ⟨b, off + i, none⟩ = some L[i] := by
  rcases h with rfl | ⟨b, off, h1, h2, h3⟩
  · exact absurd hi (Nat.not_lt_zero _)
  · exact ⟨b, off, h1, h2, h3 i _ (List.getElem?_eq_getElem hi)⟩
theorem Rd.sliced {w : World} {a : Option Addr} {L : List Value} (h : Rd w a L) (lo hi cap : Nat) (h1 : lo ≤ hi) (h2 : hi ≤ L.length) (h3 : L.length ≤ cap) :
    ∃ a', sliced a lo hi cap 1 = .slice a' (hi - lo) (cap - lo) ∧ Rd w a' ((L.drop lo).take (hi - lo)) := by
  refine ⟨_, rfl, ?_⟩
  rcases h with rfl | ⟨b, off, rfl, g2, g3⟩
  · left; simp
  · by_cases hc : cap = lo
    · left
      have : hi - lo = 0 := by omega
      rw [this]; simp
    · right
      refine ⟨b, off + lo, by simp only [hc, if_false, Option.map_some, Nat.mul_one]; rw [addr_add], g2, fun i u hu => ?_⟩
      rw [List.getElem?_take] at hu
      split at hu
      case isFalse => cases hu
      rw [List.getElem?_drop] at hu
      have := g3 (lo + i) u hu
      rw [Nat.add_assoc]; exact this
/-- A row of the call's own is read so. -/
theorem Rd.own {w : World} {base : Nat} {e : TypeId} {v : Value} {n : Nat} {xs : List Value} (h : w.ownsRow base e 1 v n xs) : ∃ a cap, v = .slice a xs.length cap ∧ Rd w a xs ∧ xs.length ≤ cap ∧ cap ≤ maxLen := by
  have hl : xs.length = n := by have := h.1; omega
  rcases h.2 with ⟨rfl, h0⟩ | ⟨g, cap, cur, hv, hb, hh, hn, hc, hs, ht⟩
  · have : xs = [] := List.eq_nil_of_length_eq_zero (by omega)
    subst this
    exact ⟨none, 0, rfl, .inl rfl, Nat.le_refl _, Nat.zero_le _⟩
  · refine ⟨some ⟨g, 0, none⟩, cap, by rw [hl]; exact hv, .inr ⟨g, 0, rfl, (Array.getElem?_eq_some_iff.1 hh).1, fun i u hu => ?_⟩, by omega, hc⟩
    have := h.cells (g := g) (by rw [hv]; rfl) i u hu
    rwa [addr_add] at this
/-- append of whatever is read so onto a row of the call's own. -/
theorem append_rd {P : Program} (w : World) (base : Nat) (t ty e : TypeId) (i : TypeInfo) (z : Value) (bytes : Nat) (ht : P.underlying t = some (.slice e)) (hi : P.info? e = some i) (hz : i.zero = some z)
    (hsize : i.size = 1) (hby : i.bytes = bytes) (hzs : z.cells.size = 1)
    (v : Value) (n : Nat) (xs : List Value) (hown : w.ownsRow base e 1 v n xs) (a : Option Addr) (L : List Value) (c : Nat) (hr : Rd w a L) (h1 : ∀ u ∈ L, u.oneCell' = true)
    (h63 : n + L.length ≤ maxLen) (hbytes : (n + L.length) * bytes ≤ 140737488355328) (hbase : base ≤ w.heap.size) :
    ∃ v' w', (Builtin.append_ #[t, t] ty #[v, .slice a L.length c]).run P w = .ok v' w' ∧ w'.ownsRow base e 1 v' (n + L.length) (xs ++ L) ∧ w.grownBy w' v.ownBlock := by
  by_cases hL : L = []
  · subst hL
    rw [List.append_nil]
    refine ⟨v, w, ?_, hown, ⟨rfl, rfl, rfl, Nat.le_refl _, fun _ _ _ => rfl⟩⟩
    rcases hown.2 with ⟨rfl, rfl⟩ | ⟨g, cap, cur, rfl, hbg, hg, hnc, hcm, hcs, htake⟩
    · cases a <;> simp [Builtin.append_, run_underlying ht, sizeOf, typeInfo, hi, Builtin.lenOf, Builtin.firstCells, loadCells, loadCellsFrom]
    · cases a <;> simp [Builtin.append_, run_underlying ht, sizeOf, typeInfo, hi, Builtin.lenOf, Builtin.firstCells, loadCells, loadCellsFrom, hnc, storeCells]
  · rcases hr with hr | ⟨b, off, rfl, g2, g3⟩
    · exact absurd hr hL
    · obtain ⟨v', w', q1, q2, q3, _⟩ := run_append_own (P := P) w base t ty e i z 1 bytes ht hi hz hsize hby hzs (by omega) v n xs hown ⟨b, off, none⟩ L.length c L (by omega)
        (fun j u hu => by rw [addr_add]; exact g3 j u hu) h1 h63 hbytes hbase
      exact ⟨v', w', q1, q2, q3⟩
/-- What is read so stays, when a row of the call's own is grown. -/
theorem Rd.grown {w w' : World} {row : Option Nat} {a : Option Addr} {L : List Value} (h : Rd w a L) (hg : w.grownBy w' row) (hne : ∀ x, a = some x → row ≠ some x.block) : Rd w' a L := by
  rcases h with h | ⟨b, off, rfl, h2, h3⟩
  · exact .inl h
  · refine .inr ⟨b, off, rfl, Nat.lt_of_lt_of_le h2 hg.size, fun i u hu => hg.cell (h3 i u hu) (fun e => hne _ rfl e.symm)⟩
end Go.Proofs.Ytlbnakoaflladaa
