/-
  A disk that a law has made, beside blocks of the law's own.
-/
import Derived.Test.YteaiiiikehimgaaEx06
import Derived.Test.YteaiiiikehimgaaDiskFacts
namespace Go.Proofs.Yteaiiiikehimgaa
open Go.RowKit
set_option linter.unusedVariables false
set_option linter.unusedSimpArgs false
/-- A disk all of whose blocks were made behind w0, and none of which is one of R. -/
def DkG (w0 w : World) (R : Nat → Prop) (d : Nat) (st : DkS) : Prop := ∃ F, Dk w d st F ∧ Below w0.heap.size w0 w ∧ (∀ k, F k → w0.heap.size ≤ k) ∧ ∀ k, R k → ¬ F k ∧ k < w.heap.size
def KeptR (R : Nat → Prop) (w w' : World) : Prop := ∀ k, R k → w'.heap[k]? = w.heap[k]?
theorem KeptR.trans {R : Nat → Prop} {a b c : World} (h : KeptR R a b) (k : KeptR R b c) : KeptR R a c := fun i hi => (k i hi).trans (h i hi)
theorem DkG.below {w0 w : World} {R : Nat → Prop} {d : Nat} {st : DkS} (h : DkG w0 w R d st) : Below w0.heap.size w0 w := h.choose_spec.2.1
theorem DkG.of {w0 w : World} {d : Nat} {st : DkS} (h : DkL w0 w d st) : DkG w0 w (fun _ => False) d st := by
  obtain ⟨F, h1, h2, h3⟩ := h
  exact ⟨F, h1, h2, h3, fun _ hx => hx.elim⟩
theorem DkG.lose {w0 w : World} {R : Nat → Prop} {d : Nat} {st : DkS} (h : DkG w0 w R d st) : DkL w0 w d st := by
  obtain ⟨F, h1, h2, h3, _⟩ := h
  exact ⟨F, h1, h2, h3⟩
theorem DkG.step {w0 w w' : World} {R : Nat → Prop} {d : Nat} {st : DkS} (h : DkG w0 w R d st) (hb : Below w.heap.size w w') : DkG w0 w' R d st ∧ KeptR R w w' := by
  obtain ⟨F, hd, hw, hF, hR⟩ := h
  exact ⟨⟨F, hd.below hb, chain hw hb, hF, fun k hk => ⟨(hR k hk).1, Nat.lt_of_lt_of_le (hR k hk).2 hb.size⟩⟩, fun k hk => hb.block k (hR k hk).2⟩
theorem DkG.alloc {w0 w : World} {R : Nat → Prop} {d : Nat} {st : DkS} (h : DkG w0 w R d st) (o : Obj) : DkG w0 (w.alloc o) (fun k => R k ∨ k = w.heap.size) d st := by
  obtain ⟨F, hd, hw, hF, hR⟩ := h
  have hb : Below w.heap.size w (w.alloc o) := (Below.refl _ _).alloc (Nat.le_refl _) _
  refine ⟨F, hd.below hb, chain hw hb, hF, fun k hk => ?_⟩
  rcases hk with hk | rfl
  · exact ⟨(hR k hk).1, Nat.lt_of_lt_of_le (hR k hk).2 hb.size⟩
  · exact ⟨fun hx => by have := hd.lt _ hx; omega, by simp⟩
/-- A block of the law's own turns. -/
theorem DkG.own {w0 w w' : World} {R : Nat → Prop} {d : Nat} {st : DkS} (h : DkG w0 w R d st) (a : Nat) (ha : R a) (ha0 : w0.heap.size ≤ a) (hf : Frm (fun k => k = a) w w') : DkG w0 w' R d st := by
  obtain ⟨F, hd, hw, hF, hR⟩ := h
  refine ⟨F, hd.frm hf fun k hk e => (hR a ha).1 (e ▸ hk), hw.trans (hf.below (fun k hk => by omega) hw.size), hF, fun k hk => ⟨(hR k hk).1, Nat.lt_of_lt_of_le (hR k hk).2 hf.size⟩⟩
theorem DkG.post {w0 w w' : World} {R : Nat → Prop} {d : Nat} {st' : DkS} {F : Nat → Prop} (hw : Below w0.heap.size w0 w) (hF : ∀ k, F k → w0.heap.size ≤ k) (hR : ∀ k, R k → ¬ F k ∧ k < w.heap.size) (hp : DkPost w d st' F w') : DkG w0 w' R d st' ∧ KeptR R w w' := by
  obtain ⟨F', hd, hf, hs⟩ := hp
  refine ⟨⟨F', hd, hw.trans (hf.below (fun k hk => hF k hk) hw.size), fun k hk => ?_, fun k hk => ⟨fun hx => ?_, Nat.lt_of_lt_of_le (hR k hk).2 hf.size⟩⟩, fun k hk => hf.block k (hR k hk).2 (hR k hk).1⟩
  · rcases hs k hk with hx | hx
    · exact hF k hx
    · exact Nat.le_trans hw.size hx
  · rcases hs k hx with h1 | h1
    · exact (hR k hk).1 h1
    · have := (hR k hk).2; omega
theorem write_G {w0 w : World} {R : Nat → Prop} {d : Nat} {st : DkS} (h : DkG w0 w R d st) (i : Int) (s : ByteArray) :
    Calls Try.prog 13 #[.pointer (some ⟨d, 0, none⟩), .int .i64 i, .string s] w fun e w' => e = .returned (.int .i64 (st.write i s.data.toList).2) ∧ DkG w0 w' R d (st.write i s.data.toList).1 ∧ KeptR R w w' := by
  obtain ⟨F, hd, hw, hF, hR⟩ := h
  exact (write_any w d st F hd i s).mono fun e w' hp => ⟨hp.1, DkG.post hw hF hR hp.2⟩
theorem read_G {w0 w : World} {R : Nat → Prop} {d : Nat} {st : DkS} (h : DkG w0 w R d st) (i : Int) :
    Calls Try.prog 18 #[.pointer (some ⟨d, 0, none⟩), .int .i64 i] w fun e w' => e = .returned (.tuple #[.string (Str (st.read i).1), .int .i64 (st.read i).2]) ∧ w = w' := by
  obtain ⟨F, hd, hw, hF, hR⟩ := h
  exact read_any w d st F hd i
theorem crash_G {w0 w : World} {R : Nat → Prop} {d : Nat} {st : DkS} (h : DkG w0 w R d st) (ka : Option Addr) (klen kcap : Nat) (zs : List Int) (hk : IsInts .i64 w0 ka klen kcap zs) :
    Calls Try.prog 17 #[.pointer (some ⟨d, 0, none⟩), .slice ka klen kcap] w fun e w' => e = .returned (.tuple #[]) ∧ DkG w0 w' R d (st.crash (zs.take klen)) ∧ KeptR R w w' := by
  obtain ⟨F, hd, hw, hF, hR⟩ := h
  refine (crash_is w d st F hd ka klen kcap (zs.take klen) ?_).mono fun e w' hp => ⟨hp.1, DkG.post hw hF hR hp.2⟩
  rcases hk with ⟨rfl, rfl, rfl, rfl⟩ | ⟨x, rfl, h1, h2, h3, h4, h5⟩
  · exact ⟨rfl, Nat.le_refl _, by decide, .inl ⟨rfl, rfl, rfl⟩⟩
  · refine ⟨by rw [List.length_take]; omega, h1, h2, .inr ⟨x, rfl, fun w' hf j hj => ?_⟩⟩
    have hc := h4 j (by omega)
    have hlt : (x.add j).block < w0.heap.size := by
      unfold World.cell? at hc
      cases hq : w0.heap[(x.add j).block]? with
      | none => rw [hq] at hc; simp at hc
      | some o => exact (Array.getElem?_eq_some_iff.1 hq).1
    have hb : w'.heap[(x.add j).block]? = w0.heap[(x.add j).block]? := by
      rw [hf.block _ (Nat.lt_of_lt_of_le hlt hw.size) (fun hx => by have := hF _ hx; omega)]
      exact hw.block _ hlt
    rw [World.cell?_of_block hb, hc, List.getD_eq_getElem?_getD, List.getD_eq_getElem?_getD, List.getElem?_take, if_pos hj]
theorem loose_G {w0 w : World} {R : Nat → Prop} {d : Nat} {st : DkS} (h : DkG w0 w R d st) :
    Calls Try.prog 16 #[.pointer (some ⟨d, 0, none⟩)] w (RowOut w (st.L.map fun p => (p.1 : Int))) := loose_L h.lose
/-- A row of texts of the law's own. -/
def Txs (T : TypeId) (w : World) (g : Nat) (l : List ByteArray) : Prop := w.heap[g]? = some (.cells (l.map Value.string).toArray T (0, 0))
theorem Txs.cell {T : TypeId} {w : World} {g : Nat} {l : List ByteArray} (h : Txs T w g l) (j : Nat) (hj : j < l.length) : w.cell? ⟨g, j, none⟩ = some (.string l[j]) := by
  rw [cell_of_row w g j _ T _ h]
  simp [List.getElem?_eq_getElem hj]
theorem Txs.free {T : TypeId} {w : World} {g : Nat} {l : List ByteArray} (h : Txs T w g l) (j : Nat) : w.frozen? ⟨g, j, none⟩ = false := frozen_of_row w g j _ T h
theorem Txs.set {T : TypeId} {w : World} {g : Nat} {l : List ByteArray} (h : Txs T w g l) (j : Nat) (s : ByteArray) : Txs T (w.setCell ⟨g, j, none⟩ (.string s)) g (l.set j s) := by
  unfold Txs
  rw [heap_setCell_same w g j _ T _ h]
  congr 2
  apply Array.ext'
  simp [List.map_set]
theorem Txs.kept {T : TypeId} {w w' : World} {g : Nat} {l : List ByteArray} (h : Txs T w g l) (e : w'.heap[g]? = w.heap[g]?) : Txs T w' g l := e.trans h
end Go.Proofs.Yteaiiiikehimgaa
