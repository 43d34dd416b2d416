/-
  A disk that a law has made: what stood ahead of the law is as it was.
-/
import Derived.Test.YtbjmbndeaobbeaaDoorDiskC
namespace Go.Proofs.YtbjmbndeaobbeaaDoor
open Go.RowKit
set_option linter.unusedVariables false
set_option linter.unusedSimpArgs false
/-- A disk all of whose blocks were made behind w0. -/
def DkL (w0 w : World) (d : Nat) (st : DkS) : Prop := ∃ F, Dk w d st F ∧ Below w0.heap.size w0 w ∧ ∀ k, F k → w0.heap.size ≤ k
theorem DkL.below {w0 w : World} {d : Nat} {st : DkS} (h : DkL w0 w d st) : Below w0.heap.size w0 w := h.choose_spec.2.1
theorem DkL.ok {w0 w : World} {d : Nat} {st : DkS} (h : DkL w0 w d st) : st.Ok := h.choose_spec.1.ok
theorem DkL.step {w0 w w' : World} {d : Nat} {st : DkS} (h : DkL w0 w d st) (hb : Below w.heap.size w w') : DkL w0 w' d st := by
  obtain ⟨F, hd, hw, hF⟩ := h
  exact ⟨F, hd.below hb, chain hw hb, hF⟩
theorem DkL.post {w0 w w' : World} {d : Nat} {st' : DkS} {F : Nat → Prop} (hw : Below w0.heap.size w0 w) (hF : ∀ k, F k → w0.heap.size ≤ k) (hp : DkPost w d st' F w') : DkL w0 w' d st' := by
  obtain ⟨F', hd, hf, hs⟩ := hp
  refine ⟨F', hd, hw.trans (hf.below (fun k hk => hF k hk) hw.size), fun k hk => ?_⟩
  rcases hs k hk with hx | hx
  · exact hF k hx
  · exact Nat.le_trans hw.size hx
theorem write_L {w0 w : World} {d : Nat} {st : DkS} (h : DkL w0 w d st) (i : Int) (s : ByteArray) :
    Calls Tryd.prog 45 #[.pointer (some ⟨d, 0, none⟩), .int .i64 i, .string s] w fun e w' => e = .returned (.int .i64 (st.write i s.data.toList).2) ∧ DkL w0 w' d (st.write i s.data.toList).1 := by
  obtain ⟨F, hd, hw, hF⟩ := h
  exact (write_any w d st F hd i s).mono fun e w' hp => ⟨hp.1, DkL.post hw hF hp.2⟩
theorem read_L {w0 w : World} {d : Nat} {st : DkS} (h : DkL w0 w d st) (i : Int) :
    Calls Tryd.prog 50 #[.pointer (some ⟨d, 0, none⟩), .int .i64 i] w fun e w' => e = .returned (.tuple #[.string (Str (st.read i).1), .int .i64 (st.read i).2]) ∧ w = w' := by
  obtain ⟨F, hd, hw, hF⟩ := h
  exact read_any w d st F hd i
theorem sync_L {w0 w : World} {d : Nat} {st : DkS} (h : DkL w0 w d st) :
    Calls Tryd.prog 32 #[.pointer (some ⟨d, 0, none⟩)] w fun e w' => e = .returned (.int .i64 st.sync.2) ∧ DkL w0 w' d st.sync.1 := by
  obtain ⟨F, hd, hw, hF⟩ := h
  exact (sync_any w d st F hd).mono fun e w' hp => ⟨hp.1, DkL.post hw hF hp.2⟩
theorem up_L {w0 w : World} {d : Nat} {st : DkS} (h : DkL w0 w d st) :
    Calls Tryd.prog 10 #[.pointer (some ⟨d, 0, none⟩)] w fun e w' => e = .returned (.bool st.up) ∧ w = w' := by
  obtain ⟨F, hd, hw, hF⟩ := h
  exact up_is w d st F hd
theorem fuse_L {w0 w : World} {d : Nat} {st : DkS} (h : DkL w0 w d st) (n v : Int) (hv : (n < -1 ∧ v = -1) ∨ (-1 ≤ n ∧ v = n)) (hn : n ≤ 9223372036854775807) :
    Calls Tryd.prog 9 #[.pointer (some ⟨d, 0, none⟩), .int .i64 n] w fun e w' => e = .returned (.tuple #[]) ∧ DkL w0 w' d { st with fuse := v } := by
  obtain ⟨F, hd, hw, hF⟩ := h
  exact (fuse_is w d st F hd n v hv hn).mono fun e w' hp => ⟨hp.1, DkL.post hw hF hp.2⟩
theorem crash_L {w0 w : World} {d : Nat} {st : DkS} (h : DkL w0 w d st) (ka : Option Addr) (klen kcap : Nat) (zs : List Int) (hk : IsInts .i64 w0 ka klen kcap zs) :
    Calls Tryd.prog 16 #[.pointer (some ⟨d, 0, none⟩), .slice ka klen kcap] w fun e w' => e = .returned (.tuple #[]) ∧ DkL w0 w' d (st.crash (zs.take klen)) := by
  obtain ⟨F, hd, hw, hF⟩ := h
  refine (crash_is w d st F hd ka klen kcap (zs.take klen) ?_).mono fun e w' hp => ⟨hp.1, DkL.post hw hF hp.2⟩
  rcases hk with ⟨rfl, rfl, rfl, rfl⟩ | ⟨x, rfl, h1, h2, h3, h4, h5⟩
  · exact ⟨rfl, Nat.le_refl _, by decide, .inl ⟨rfl, rfl, rfl⟩⟩
  · refine ⟨by rw [List.length_take]; omega, h1, h2, .inr ⟨x, rfl, fun w' hf j hj => ?_⟩⟩
    have hc := h4 j (by omega)
    have hlt : (x.add j).block < w0.heap.size := by
      unfold World.cell? at hc
      cases hq : w0.heap[(x.add j).block]? with
      | none => rw [hq] at hc; simp at hc
      | some o => exact (Array.getElem?_eq_some_iff.1 hq).1
    have hb : w'.heap[(x.add j).block]? = w0.heap[(x.add j).block]? := by
      rw [hf.block _ (Nat.lt_of_lt_of_le hlt hw.size) (fun hx => by have := hF _ hx; omega)]
      exact hw.block _ hlt
    rw [World.cell?_of_block hb, hc, List.getD_eq_getElem?_getD, List.getD_eq_getElem?_getD, List.getElem?_take, if_pos hj]
theorem made_L {w0 w w' : World} {st : DkS} {e : Ending} (hw : Below w0.heap.size w0 w) (h : Made w st e w') : ∃ d, e = .returned (.tuple #[.pointer (some ⟨d, 0, none⟩), .int .i64 0]) ∧ DkL w0 w' d st := by
  obtain ⟨d, F, he, hd, hb, hF⟩ := h
  exact ⟨d, he, F, hd, chain hw hb, fun k hk => Nat.le_trans hw.size (hF k hk)⟩
/-- A row of numbers that a call hands back. -/
def RowOutD (w : World) (xs : List Int) (e : Ending) (w' : World) : Prop := ∃ v, e = .returned v ∧ w'.ownsRow w.heap.size 3 1 v xs.length (xs.map fun n => .int .i64 n) ∧ Below w.heap.size w w'
theorem nil_nil (w : World) : (binOp .eql 23 (.slice none 0 0) (.slice none 0 0)).run Tryd.prog w = .ok (.bool true) w := by kernel_rfl
theorem some_nil (a : Addr) (n c : Nat) (w : World) : (binOp .eql 23 (.slice (some a) n c) (.slice none 0 0)).run Tryd.prog w = .ok (.bool false) w := by kernel_rfl
end Go.Proofs.YtbjmbndeaobbeaaDoor
