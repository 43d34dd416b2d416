/-
  A disk beside a row of flags and a growing row of numbers of a law's own.
-/
import Derived.Test.YteaiiiikehimgaaDiskG
import Derived.Test.YteaiiiikehimgaaDiskOwnLaw
import Derived.SliceStrings
import Derived.SizedLaws
import Derived.BigQuiet
namespace Go.Proofs.Yteaiiiikehimgaa
open Go.RowKit
set_option linter.unusedVariables false
set_option linter.unusedSimpArgs false
theorem DkG.turn {w0 w w' : World} {R R' G : Nat → Prop} {d : Nat} {st : DkS} (h : DkG w0 w R d st) (hf : Frm G w w') (hG : ∀ k, G k → R k ∧ w0.heap.size ≤ k) (hR' : ∀ k, R' k → R k ∨ (w.heap.size ≤ k ∧ k < w'.heap.size)) : DkG w0 w' R' d st := by
  obtain ⟨F, hd, hw, hF, hR⟩ := h
  refine ⟨F, hd.frm hf fun k hk e => (hR k (hG k e).1).1 hk, hw.trans (hf.below (fun k hk => (hG k hk).2) hw.size), hF, fun k hk => ?_⟩
  rcases hR' k hk with h1 | ⟨h1, h2⟩
  · exact ⟨(hR k h1).1, Nat.lt_of_lt_of_le (hR k h1).2 hf.size⟩
  · exact ⟨fun hx => by have := hd.lt _ hx; omega, h2⟩
/-- A row of flags of the law's own. -/
def Bls (T : TypeId) (w : World) (g : Nat) (l : List Bool) : Prop := w.heap[g]? = some (.cells (l.map Value.bool).toArray T (0, 0))
theorem Bls.cell {T : TypeId} {w : World} {g : Nat} {l : List Bool} (h : Bls T w g l) (j : Nat) (hj : j < l.length) : w.cell? ⟨g, j, none⟩ = some (.bool (l.getD j false)) := by
  rw [cell_of_row w g j _ T _ h]
  simp [List.getElem?_eq_getElem hj]
theorem Bls.free {T : TypeId} {w : World} {g : Nat} {l : List Bool} (h : Bls T w g l) (j : Nat) : w.frozen? ⟨g, j, none⟩ = false := frozen_of_row w g j _ T h
theorem Bls.set {T : TypeId} {w : World} {g : Nat} {l : List Bool} (h : Bls T w g l) (j : Nat) (s : Bool) : Bls T (w.setCell ⟨g, j, none⟩ (.bool s)) g (l.set j s) := by
  unfold Bls
  rw [heap_setCell_same w g j _ T _ h]
  congr 2
  simp [List.map_set]
theorem Bls.kept {T : TypeId} {w w' : World} {g : Nat} {l : List Bool} (h : Bls T w g l) (e : w'.heap[g]? = w.heap[g]?) : Bls T w' g l := e.trans h
def numsV (O : List Nat) : List Value := O.map fun (n : Nat) => Value.int .i64 (Int.ofNat n)
theorem numsV_len (O : List Nat) : (numsV O).length = O.length := by simp [numsV]
structure RowsT (w wr : World) (d gm : Nat) (vo : Value) (st : DkS) (M : List Bool) (O : List Nat) : Prop where
  dk : DkG w wr (fun k => k = gm ∨ vo.ownBlock = some k) d st
  fl : Bls 51 wr gm M
  row : wr.ownsRow 0 3 1 vo O.length (numsV O)
  ne : vo.ownBlock ≠ some gm
  mg : w.heap.size ≤ gm
  mo : ∀ k, vo.ownBlock = some k → w.heap.size ≤ k
theorem RowsT.keep {w wr w' : World} {d gm : Nat} {vo : Value} {st st' : DkS} {M : List Bool} {O : List Nat} (h : RowsT w wr d gm vo st M O) (hd : DkG w w' (fun k => k = gm ∨ vo.ownBlock = some k) d st') (hk : KeptR (fun k => k = gm ∨ vo.ownBlock = some k) wr w') : RowsT w w' d gm vo st' M O :=
  ⟨hd, h.fl.kept (hk gm (.inl rfl)), ownsRow_kept h.row fun k hk2 => hk k (.inr hk2), h.ne, h.mg, h.mo⟩
theorem RowsT.step {w wr w' : World} {d gm : Nat} {vo : Value} {st : DkS} {M : List Bool} {O : List Nat} (h : RowsT w wr d gm vo st M O) (hb : Below wr.heap.size wr w') : RowsT w w' d gm vo st M O :=
  h.keep (h.dk.step hb).1 (h.dk.step hb).2
theorem RowsT.mark {w wr : World} {d gm : Nat} {vo : Value} {st : DkS} {M : List Bool} {O : List Nat} (h : RowsT w wr d gm vo st M O) (k : Nat) : RowsT w (wr.setCell ⟨gm, k, none⟩ (.bool true)) d gm vo st (M.set k true) O :=
  ⟨h.dk.own gm (.inl rfl) h.mg ((Frm.refl _ _).setCell _ _ (.inl rfl)), h.fl.set k true, ownsRow_kept h.row fun j hj => heap_setCell_other _ _ j _ (fun e => h.ne (by rw [hj, e])), h.ne, h.mg, h.mo⟩
theorem RowsT.append {w wr : World} {d gm : Nat} {vo : Value} {st : DkS} {M : List Bool} {O : List Nat} (h : RowsT w wr d gm vo st M O) (n : Nat) (ho : O.length ≤ 100000) :
    ∃ v' w5, (Builtin.append_ #[29, 29] 29 #[vo, .slice (some ⟨wr.heap.size, 0, none⟩) 1 1]).run Try.prog (wr.alloc (.cells #[.int .i64 (n : Int)] 3)) = .ok v' w5 ∧ RowsT w w5 d gm v' st M (O ++ [n]) := by
  obtain ⟨w4, hw4⟩ : ∃ w4, wr.alloc (.cells #[.int .i64 (n : Int)] 3) = w4 := ⟨_, rfl⟩
  have hsz4 : w4.heap.size = wr.heap.size + 1 := by rw [← hw4]; simp
  have hu : w4.cell? ⟨wr.heap.size, 0, none⟩ = some (.int .i64 (n : Int)) := by rw [← hw4, World.cell?_alloc_new]; rfl
  have h4 : RowsT w w4 d gm vo st M O := h.step (by rw [← hw4]; exact (Below.refl _ _).alloc (Nat.le_refl _) _)
  obtain ⟨i, hinfo, hz0, hz1, hz2⟩ : ∃ i, Try.prog.info? 3 = some i ∧ i.zero = some (.int .i64 0) ∧ i.size = 1 ∧ i.bytes = 8 := by
    have : (Try.prog.info? 3).map (fun i => (i.zero, i.size, i.bytes)) = some (some (.int .i64 0), 1, 8) := by kernel_rfl
    cases hq : Try.prog.info? 3 with
    | none => rw [hq] at this; cases this
    | some i =>
      rw [hq] at this
      simp only [Option.map_some, Option.some.injEq, Prod.mk.injEq] at this
      exact ⟨i, rfl, this.1, this.2.1, this.2.2⟩
  obtain ⟨v', w5, k, hap, hown, hgrow, hkb, hkc⟩ := append_one Try.prog w4 29 29 3 i _ Try.underlying29 hinfo hz0 hz1 hz2 rfl vo O.length _ h4.row wr.heap.size _ hu rfl ho
  refine ⟨v', w5, by rw [hw4]; exact hap, ?_⟩
  have hgm : gm < wr.heap.size := by
    obtain ⟨_, _, _, _, hR⟩ := h.dk
    exact (hR gm (.inl rfl)).2
  have hkl : ∀ k, vo.ownBlock = some k → k < wr.heap.size := by
    obtain ⟨_, _, _, _, hR⟩ := h.dk
    exact fun k hk => (hR k (.inr hk)).2
  have hf : Frm (fun k => vo.ownBlock = some k) w4 w5 := (Frm.refl _ _).grown hgrow fun k hk => .inl hk
  have hwk : w.heap.size ≤ wr.heap.size := h.dk.below.size
  have hk5 : k < w5.heap.size := by
    obtain ⟨hl, hx⟩ := hown
    rcases hx with ⟨_, hx⟩ | ⟨g, cap, cur, hv, _, hg, _⟩
    · omega
    · rw [hv] at hkb
      have : g = k := Option.some.inj hkb
      rw [← this]
      exact (Array.getElem?_eq_some_iff.1 hg).1
  refine ⟨h4.dk.turn hf (fun j hj => ⟨.inr hj, h.mo j hj⟩) ?_, ?_, ?_, ?_, h.mg, ?_⟩
  · intro j hj
    rcases hj with hj | hj
    · exact .inl (.inl hj)
    · rw [hkb] at hj
      have hj := Option.some.inj hj
      subst hj
      rcases hkc with h1 | h1
      · exact .inl (.inr h1)
      · exact .inr ⟨by omega, hk5⟩
  · exact h4.fl.kept (hgrow.block gm (by omega) (fun e => h.ne e.symm))
  · have := hown
    simpa [numsV] using this
  · rw [hkb]
    intro e
    have e := Option.some.inj e
    rcases hkc with h1 | h1
    · exact h.ne (by rw [h1, e])
    · omega
  · intro j hj
    rw [hkb] at hj
    have hj := Option.some.inj hj
    subst hj
    rcases hkc with h1 | h1
    · exact h.mo _ h1
    · omega
theorem RowsT.write {w wr : World} {d gm : Nat} {vo : Value} {st : DkS} {M : List Bool} {O : List Nat} (h : RowsT w wr d gm vo st M O) (i : Int) (s : ByteArray) :
    Calls Try.prog 13 #[.pointer (some ⟨d, 0, none⟩), .int .i64 i, .string s] wr fun e w' => e = .returned (.int .i64 (st.write i s.data.toList).2) ∧ RowsT w w' d gm vo (st.write i s.data.toList).1 M O :=
  (write_G h.dk i s).mono fun e w' hp => ⟨hp.1, h.keep hp.2.1 hp.2.2⟩
theorem belowN {n : Nat} {a b : World} (h : Below n a b) (k : Nat) : Below n a (b.drewN k) := ⟨h.os, h.tape, h.output, h.size, h.block⟩
/-- What a row of numbers holds. -/
def RowI (w : World) (v : Value) (O : List Nat) : Prop := ∃ a cap, v = .slice a O.length cap ∧ O.length ≤ maxLen ∧ ∀ j, j < O.length → ∃ x, a = some x ∧ (x.add j).block < w.heap.size ∧ w.cell? (x.add j) = some (.int .i64 ((O.getD j 0 : Nat) : Int))
theorem RowI.of {w : World} {b : Nat} {v : Value} {O : List Nat} (h : w.ownsRow b 3 1 v O.length (numsV O)) : RowI w v O := by
  obtain ⟨hl, hx⟩ := h
  rcases hx with ⟨rfl, hx⟩ | ⟨g, cap, cur, rfl, hb, hg, hnc, hcm, hcs, ht⟩
  · exact ⟨none, 0, by rw [hx], by rw [hx]; decide, fun j hj => by omega⟩
  · refine ⟨_, cap, rfl, by omega, fun j hj => ⟨_, rfl, by rw [addr_add]; exact (Array.getElem?_eq_some_iff.1 hg).1, ?_⟩⟩
    rw [addr_add, Nat.zero_add, cell_of_row w g j _ _ _ hg]
    have h1 : (numsV O)[j]? = some (.int .i64 ((O.getD j 0 : Nat) : Int)) := by
      unfold numsV
      rw [List.getElem?_map, List.getElem?_eq_getElem hj, List.getD_eq_getElem?_getD, List.getElem?_eq_getElem hj]
      rfl
    rw [← ht, List.getElem?_take, if_pos (by omega)] at h1
    simpa using h1
theorem RowI.cell {w wr : World} {a : Option Addr} {cap : Nat} {O : List Nat} (h : ∀ j, j < O.length → ∃ x, a = some x ∧ (x.add j).block < w.heap.size ∧ w.cell? (x.add j) = some (.int .i64 ((O.getD j 0 : Nat) : Int))) (hb : Below w.heap.size w wr) (j : Nat) (hj : j < O.length) :
    ∃ x, a = some x ∧ wr.cell? (x.add j) = some (.int .i64 ((O.getD j 0 : Nat) : Int)) := by
  obtain ⟨x, hx, hl, hc⟩ := h j hj
  exact ⟨x, hx, by rw [World.cell?_of_block (hb.block _ hl)]; exact hc⟩
set_option maxHeartbeats 1600000 in
theorem numbers_same (w : World) (u v : Value) (O : List Nat) (hu : RowI w u O) (hv : RowI w v O) :
    Calls Try.prog 21 #[u, v] w fun e w' => e = .returned (.bool true) ∧ Below w.heap.size w w' := by
  obtain ⟨a, ca, rfl, hm, ha⟩ := hu
  obtain ⟨b, cb, rfl, _, hb⟩ := hv
  have HA := Lib.hid ha
  have HB := Lib.hid hb
  have hlb : (O.length : Int) ≤ 9223372036854775807 := by unfold maxLen at hm; omega
  obtain ⟨n, hn⟩ : ∃ n, O.length = n := ⟨_, rfl⟩
  have HN := Lib.hid hn
  clear ha hb hm
  rw [hn] at hlb ⊢
  clear hn
  go_enter Try.func21, Try.ntmps21
  go_wp2_with fail
  go_loopw [5] (fun i wr => ∃ j : Nat, j ≤ n ∧ i = .int .i64 (j : Int) ∧ Hid (Below w.heap.size w wr)) (fun i _ => n + 1 - (intOf i).toNat)
  case atStart => exact ⟨0, Nat.zero_le _, rfl, Lib.hid (Below.refl _ _)⟩
  case round =>
    obtain ⟨j, hj, rfl, BB⟩ := hrel
    by_cases hlt : j < n
    · have hli : (j : Int) < (n : Int) := by omega
      obtain ⟨x, hx, hc⟩ := RowI.cell (cap := 0) HA.out BB.out j (by rw [HN.out]; exact hlt)
      obtain ⟨y, hy, hd⟩ := RowI.cell (cap := 0) HB.out BB.out j (by rw [HN.out]; exact hlt)
      subst hx
      subst hy
      generalize O.getD j 0 = q at hc hd
      go_wp2_with fail
      go_quiet (fail)
      have BQ := Lib.hid (belowN BB.out nq)
      go_wp2_with fail
      go_roundw
      case rel => exact ⟨j + 1, by omega, by go_num, BQ⟩
      case measure => simp [intOf]; omega
    · have hli : ¬ (j : Int) < (n : Int) := by omega
      go_wp2_with fail
      go_ret
      exact ⟨rfl, BB.out⟩
end Go.Proofs.Yteaiiiikehimgaa
