/-
  The document's own disk: New; Write, whatever it is asked.
-/
import Derived.Test.YteaiiiikehimgaaRkY
namespace Go.Proofs.Yteaiiiikehimgaa
open Go.RowKit
set_option linter.unusedVariables false
set_option linter.unusedSimpArgs false
theorem refWrite_any (w : World) (x : Nat) (st : DkS) (F : Nat → Prop) (h : Rk w x st F) (i : Int) (s : ByteArray) :
    Calls Try.prog 23 #[.pointer (some ⟨x, 0, none⟩), .int .i64 i, .string s] w fun e w' => e = .returned (.int .i64 (st.write i s.data.toList).2) ∧ RkPost w x (st.write i s.data.toList).1 F w' := by
  have hl : s.data.toList.length = s.size := by simp
  unfold DkS.write
  rw [hl]
  cases hu : st.up
  · rw [if_pos rfl]
    exact (refWrite_down w x st F h i s hu).mono fun e w' hw => ⟨hw.1, hw.2 ▸ RkPost.same h⟩
  · rw [if_neg (by simp)]
    cases hc : (decide (0 ≤ i) && decide (i < (st.S.length : Int)) && decide (s.size = 256))
    · rw [if_pos rfl]
      refine (refWrite_arg w x st F h i s hu ?_).mono fun e w' hw => ⟨hw.1, hw.2 ▸ RkPost.same h⟩
      by_cases h0 : i < 0
      · exact .inl h0
      · by_cases h1 : (st.S.length : Int) ≤ i
        · exact .inr (.inl ⟨by omega, h1⟩)
        · refine .inr (.inr ⟨by omega, by omega, ?_⟩)
          have hs : ¬ s.size = 256 := fun e => by
            rw [decide_eq_true (show 0 ≤ i by omega), decide_eq_true (show i < (st.S.length : Int) by omega), decide_eq_true e] at hc
            cases hc
          have h2 : ((s.size : Int) == 256) = false := by simpa using (fun e : (s.size : Int) = 256 => hs (by omega))
          simp [bne, h2]
    · rw [if_neg (by simp)]
      simp only [Bool.and_eq_true, decide_eq_true_eq] at hc
      obtain ⟨n, rfl⟩ := Int.eq_ofNat_of_zero_le hc.1.1
      by_cases hf : st.fuse = 0
      · rw [if_pos hf]
        exact refWrite_blown w x st F h n s hu (by omega) hc.2 hf
      · rw [if_neg hf]
        exact refWrite_yes w x st F h n s hu (by omega) hc.2 hf
def RMade (w : World) (st : DkS) (e : Ending) (w' : World) : Prop := ∃ (x : Nat) (F : Nat → Prop), e = .returned (.pointer (some ⟨x, 0, none⟩)) ∧ Rk w' x st F ∧ Below w.heap.size w w' ∧ ∀ k, F k → w.heap.size ≤ k
theorem str_info : ∃ i, Try.prog.info? 9 = some i ∧ i.zero = some (.string ByteArray.empty) ∧ i.size = 1 ∧ i.bytes = 16 := by
  have : (Try.prog.info? 9).map (fun i => (i.zero, i.size, i.bytes)) = some (some (.string ByteArray.empty), 1, 16) := by kernel_rfl
  cases hq : Try.prog.info? 9 with
  | none => rw [hq] at this; cases this
  | some i =>
    rw [hq] at this
    simp only [Option.map_some, Option.some.injEq, Prod.mk.injEq] at this
    exact ⟨i, rfl, this.1, this.2.1, this.2.2⟩
/-- While sectors are made. -/
structure Making (w wr : World) (x : Nat) (vs : Value) (j : Nat) (Z : ByteArray) : Prop where
  cell : wr.heap[x]? = some (.cells #[vs, .slice none 0 0, .int .i64 (-1), .bool false] 60 (0, 0))
  row : wr.ownsRow (x + 1) 9 1 vs j (List.replicate j (.string Z))
  frm : Frm (fun _ => False) w wr
  hx : w.heap.size ≤ x
theorem Making.step {w wr : World} {x : Nat} {vs : Value} {j : Nat} {Z : ByteArray} (h : Making w wr x vs j Z) (hj : j ≤ 640) (w2 : World) (hb : Below wr.heap.size wr w2) :
    ∃ v' w5, (Builtin.append_ #[48, 48] 48 #[vs, .slice (some ⟨w2.heap.size, 0, none⟩) 1 1]).run Try.prog (w2.alloc (.cells #[.string Z] 9)) = .ok v' w5 ∧
      w5.cell? ⟨x, 0, none⟩ = some vs ∧ w5.frozen? ⟨x, 0, none⟩ = false ∧ Making w (w5.setCell ⟨x, 0, none⟩ v') x v' (j + 1) Z := by
  obtain ⟨i, hi, hz, hsize, hby⟩ := str_info
  have hxl : x < wr.heap.size := (Array.getElem?_eq_some_iff.1 h.cell).1
  obtain ⟨w4, hw4⟩ : ∃ w4, w2.alloc (.cells #[.string Z] 9) = w4 := ⟨_, rfl⟩
  have hb4 : Below wr.heap.size wr w4 := by rw [← hw4]; exact hb.alloc hb.size _
  have hrow : w4.ownsRow (x + 1) 9 1 vs j (List.replicate j (.string Z)) := ownsRow_keptN h.row fun k hk => hb4.block k (h.row.lt k hk).2
  have hnews : ∀ k u, [Value.string Z][k]? = some u → w4.cell? ((⟨w2.heap.size, 0, none⟩ : Addr).add k) = some u := by
    intro k u hk
    cases k with
    | zero =>
      rw [addr_add, ← hw4, World.cell?_alloc_new]
      simpa using hk
    | succ k => simp at hk
  obtain ⟨v', w5, hr, ho, hg, hnil⟩ := run_append_own (P := Try.prog) w4 (x + 1) 48 48 9 i _ 1 16 Try.underlying48 hi hz hsize hby rfl (by decide) vs j _ hrow ⟨w2.heap.size, 0, none⟩ 1 1 [.string Z] rfl hnews (by intro u hu; rw [List.mem_singleton.1 hu]; rfl) (by unfold maxLen; omega) (by omega) (by have := hb4.size; omega)
  have hvx : ∀ k, vs.ownBlock = some k → x + 1 ≤ k := fun k hk => (h.row.lt k hk).1
  have hc5 : w5.heap[x]? = some (.cells #[vs, .slice none 0 0, .int .i64 (-1), .bool false] 60 (0, 0)) := by
    rw [hg.block x (by have := hb4.size; omega) (fun e => by have := hvx x e.symm; omega), hb4.block x hxl]
    exact h.cell
  refine ⟨v', w5, by rw [hw4]; exact hr, by rw [cell_of_row w5 x 0 _ _ _ hc5]; rfl, frozen_of_row w5 x 0 _ _ hc5, ?_, ?_, ?_, h.hx⟩
  · rw [heap_setCell_same w5 x 0 _ _ _ hc5]
    rfl
  · have := ownsRow_keptN (w' := w5.setCell ⟨x, 0, none⟩ v') ho fun k hk => heap_setCell_other _ _ k _ (fun e => by
      have h1 := (ho.lt k hk).1
      have e : k = x := e
      omega)
    rw [List.replicate_succ']
    exact this
  · refine Frm.setCell (Frm.grown (h.frm.trans (G := fun _ => False) (Frm.of_below hb4) fun _ hx => hx.elim) hg fun k hk => .inr ?_) _ _ (.inr h.hx)
    have := hvx k hk
    have := h.hx
    omega
theorem Making.done {w wr : World} {x : Nat} {vs : Value} {n : Nat} {Z : ByteArray} (h : Making w wr x vs n Z) (hZ : Str zs = Z) (h8 : 8 ≤ n) (hn : n ≤ 640) : RMade w (DkS.fresh n) (.returned (.pointer (some ⟨x, 0, none⟩))) wr := by
  have hx := h.hx
  have hvx : ∀ k, vs.ownBlock = some k → x + 1 ≤ k := fun k hk => (h.row.lt k hk).1
  refine ⟨x, RkF x vs (.slice none 0 0), rfl, ⟨vs, _, ?_, fun _ => Iff.rfl⟩, h.frm.below (fun _ hx => hx.elim) (Nat.le_refl _), fun k hk => ?_⟩
  · refine ⟨h.cell, ?_, World.ownsRow_nil _ _ _ _, (fun e => by have := hvx x e; omega), (fun e => by cases e), (fun k _ e => by cases e), fresh_ok n h8 hn⟩
    have := ownsRow_base h.row
    have e1 : (DkS.fresh n).S.length = n := List.length_replicate
    have e2 : ((DkS.fresh n).S.map fun s => Value.string (Str s)) = List.replicate n (.string Z) := by
      show (List.replicate n zs).map _ = _
      rw [List.map_replicate, hZ]
    rw [e1, e2]
    exact this
  · rcases hk with rfl | hk | hk
    · exact hx
    · have := hvx k hk; omega
    · cases hk
set_option maxHeartbeats 3200000 in
set_option maxRecDepth 20000 in
theorem refNew_yes (w : World) (n : Nat) (h8 : 8 ≤ n) (hn : n ≤ 640) :
    Calls Try.prog 22 #[.int .i64 (n : Int)] w (RMade w (DkS.fresh n)) := by
  obtain ⟨Z, HZ⟩ : ∃ Z, Hid (Str zs = Z) := ⟨_, Lib.hid rfl⟩
  have hni : (n : Int) ≤ 640 := by omega
  have hn8 : 8 ≤ (n : Int) := by omega
  obtain ⟨x, hx⟩ : ∃ x, w.heap.size = x := ⟨_, rfl⟩
  have M0 : Hid (Making w (w.alloc (.cells #[.slice none 0 0, .slice none 0 0, .int .i64 (-1), .bool false] 60)) x (.slice none 0 0) 0 Z) := Lib.hid ⟨by rw [← hx]; exact heap_alloc_new _ _, World.ownsRow_nil _ _ _ _, (Frm.refl _ _).alloc _, by omega⟩
  go_enter Try.func22, Try.ntmps22
  go_wp2_with fail
  go_loopw [4] (fun i wr => ∃ (j : Nat) (vs : Value), j ≤ n ∧ i = .int .i64 (j : Int) ∧ Hid (Making w wr x vs j Z)) (fun i _ => n + 1 - (intOf i).toNat)
  case atStart => exact ⟨0, _, by omega, rfl, M0⟩
  case round =>
    obtain ⟨j, vs, hj, rfl, HM⟩ := hrel
    by_cases hlt : j < n
    · have hji : (j : Int) < (n : Int) := by omega
      have c0 : wr.cell? ⟨x, 0, none⟩ = some vs := by rw [cell_of_row wr x 0 _ _ _ HM.out.cell]; rfl
      obtain ⟨w2, hmk, hrow, hbel⟩ := made_bytes wr.drew 256 256 (Nat.le_refl _) (by decide)
      have hmk' : (Instr.makeSlice 39 (.int .i64 256) (.int .i64 256)).run Try.prog wr.drew = .ok (.slice (some ⟨wr.heap.size, 0, none⟩) 256 256) w2 := hmk
      have hcv := hrow.conv 256 256 (by rw [List.length_replicate]; exact Nat.le_refl _)
      have hz2 : Str ((List.replicate 256 (0 : UInt8)).take 256) = Z := by
        rw [List.take_of_length_le (by rw [List.length_replicate]; exact Nat.le_refl _)]
        exact HZ.out
      rw [hz2] at hcv
      have hcv' : (convert 39 9 (.slice (some ⟨wr.heap.size, 0, none⟩) 256 256)).run Try.prog w2 = .ok (.string Z) w2 := hcv
      have hb2 : Below wr.heap.size wr w2 := (Below.refl _ wr).drew.trans hbel
      obtain ⟨v', w5, hap, c5, f5, HM5⟩ := HM.out.step (by omega) w2 hb2
      obtain ⟨kb, kc, rfl⟩ : ∃ kb kc, v' = .slice (some ⟨kb, 0, none⟩) (j + 1) kc := by
        rcases HM5.row.2 with ⟨_, h2⟩ | ⟨kb, kc, cur, hv, _⟩
        · omega
        · exact ⟨kb, kc, hv⟩
      have HM6 := Lib.hid HM5
      have hxl : x < wr.heap.size := (Array.getElem?_eq_some_iff.1 HM.out.cell).1
      have k2 : w2.cell? ⟨x, 0, none⟩ = some vs := by rw [World.cell?_of_block (hb2.block x hxl)]; exact c0
      have k3 : (w2.alloc (.cells #[.string Z] 9)).cell? ⟨x, 0, none⟩ = some vs := by
        rw [World.cell?_of_block ((hb2.alloc hb2.size _).block x hxl)]; exact c0
      clear hmk hrow hbel hcv hz2 hb2 HM5 hx
      go_wp2_with fail
      refine region_ways (fun w' => w'.cell? ⟨x, 0, none⟩ = some vs) 11 (by kernel_rfl) ?_
      have HS : wr.drew.cell? ⟨x, 0, none⟩ = some vs := c0
      refine ways_skip (i := 0) (.pointer (some ⟨x, 0, none⟩)) rfl (by kernel_rfl) (by kernel_rfl) (by kernel_rfl) (by kernel_rfl) (fun _ _ _ h => h) HS (by rfl) ?_ ?_
      · intro w9
        go_simp
      simp only [Act.put, List.setIfInBounds_toArray, List.set_cons_zero, List.set_cons_succ]
      refine ways_skip (i := 1) (.pointer (some ⟨x, 0, none⟩)) rfl (by kernel_rfl) (by kernel_rfl) (by kernel_rfl) (by kernel_rfl) (fun _ _ _ h => h) HS (by rfl) ?_ ?_
      · intro w9
        go_simp
      simp only [Act.put, List.setIfInBounds_toArray, List.set_cons_zero, List.set_cons_succ]
      refine ways_skip (i := 2) (.pointer (some ⟨x, 0, none⟩)) rfl (by kernel_rfl) (by kernel_rfl) (by kernel_rfl) (by kernel_rfl) (fun _ _ _ h => h) HS (by rfl) ?_ ?_
      · intro w9
        go_simp
      simp only [Act.put, List.setIfInBounds_toArray, List.set_cons_zero, List.set_cons_succ]
      refine ways_skip (i := 3) (.pointer (some ⟨x, 0, none⟩)) rfl (by kernel_rfl) (by kernel_rfl) (by kernel_rfl) (by kernel_rfl) (fun _ _ _ h => h) HS (by rfl) ?_ ?_
      · intro w9
        go_simp
      simp only [Act.put, List.setIfInBounds_toArray, List.set_cons_zero, List.set_cons_succ]
      refine ways_take (i := 4) (vs) rfl (by kernel_rfl) (by kernel_rfl) (by kernel_rfl) (by kernel_rfl) (fun _ _ _ h => h) HS (by rfl) ?_ ?_
      · intro w9 s0
        go_simp
      simp only [Act.put, List.setIfInBounds_toArray, List.set_cons_zero, List.set_cons_succ]
      refine ways_step (i := 5) rfl (by kernel_rfl) (fun K hK => ?_)
      have HK := Lib.hid hK
      clear hK
      go_simp
      refine HK.out _ _ ?_ (fun _ => k2)
      clear HK K
      refine ways_step (i := 6) rfl (by kernel_rfl) (fun K hK => ?_)
      have HK := Lib.hid hK
      clear hK
      go_simp
      refine HK.out _ _ ?_ (fun _ => k2)
      clear HK K
      refine ways_step (i := 7) rfl (by kernel_rfl) (fun K hK => ?_)
      have HK := Lib.hid hK
      clear hK
      go_simp
      refine HK.out _ _ ?_ (fun _ => k3)
      clear HK K
      refine ways_step (i := 8) rfl (by kernel_rfl) (fun K hK => ?_)
      have HK := Lib.hid hK
      clear hK
      refine step_append_run (by rfl) (.tmp 22) (.tmp 25) 48 (by rfl) _ _ _ (by rfl) (by rfl) hap ?_
      refine HK.out _ _ ?_ (fun _ => c5)
      clear HK K
      simp only [Act.put, List.setIfInBounds_toArray, List.set_cons_zero, List.set_cons_succ]
      refine ways_skip (i := 9) (.pointer (some ⟨x, 0, none⟩)) rfl (by kernel_rfl) (by kernel_rfl) (by kernel_rfl) (by kernel_rfl) (fun _ _ _ h => h) c5 (by rfl) ?_ ?_
      · intro w9
        go_simp
      simp only [Act.put, List.setIfInBounds_toArray, List.set_cons_zero, List.set_cons_succ]
      refine ways_skip (i := 10) (.pointer (some ⟨x, 0, none⟩)) rfl (by kernel_rfl) (by kernel_rfl) (by kernel_rfl) (by kernel_rfl) (fun _ _ _ h => h) c5 (by rfl) ?_ ?_
      · intro w9
        go_simp
      simp only [Act.put, List.setIfInBounds_toArray, List.set_cons_zero, List.set_cons_succ]
      refine ways_step (i := 11) rfl (by kernel_rfl) (fun K hK => ?_)
      have HK := Lib.hid hK
      clear hK
      go_simp
      refine HK.out _ _ ?_ (fun h => absurd rfl h)
      clear HK K
      refine ways_done (by kernel_rfl) ?_
      go_wp2_with fail
      go_roundw
      case rel => exact ⟨j + 1, _, by omega, by go_num, HM6⟩
      case measure => simp [intOf]; omega
    · have hji : ¬ (j : Int) < (n : Int) := by omega
      have FIN := Lib.hid (Making.done (by have := HM.out; rw [show j = n by omega] at this; exact this) HZ.out h8 hn)
      go_wp2_with fail
      go_ret
      exact FIN.out
end Go.Proofs.Yteaiiiikehimgaa
