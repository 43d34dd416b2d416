/-
  The document's own disk: Sync, Loose, Crash.
-/
import Derived.Test.YteaiiiikehimgaaRkN
import Derived.Test.YteaiiiikehimgaaDiskTwice
import Derived.Test.YteaiiiikehimgaaDiskLastsLaw
namespace Go.Proofs.Yteaiiiikehimgaa
open Go.RowKit
set_option linter.unusedVariables false
set_option linter.unusedSimpArgs false
theorem RkIn.setNil {w : World} {x : Nat} {vs vl : Value} {st : DkS} (h : RkIn w x vs vl st) : RkIn (w.setCell ⟨x, 1, none⟩ (.slice none 0 0)) x vs (.slice none 0 0) { st with L := [] } :=
  ⟨by rw [heap_setCell_same w x 1 _ _ _ h.cell]; rfl, ownsRow_keptN h.secs fun k hk => heap_setCell_other _ _ k _ (fun e => h.sx (by rw [hk, e])), World.ownsRow_nil _ _ _ _, h.sx, (fun e => by cases e), (fun k _ e => by cases e),
   { lens := h.ok.lens, had := fun p hp => (by cases hp), keys := List.nodup_nil, few := h.ok.few, least := h.ok.least, fuse0 := h.ok.fuse0, fuse1 := h.ok.fuse1 }⟩
theorem refSync_any (w : World) (x : Nat) (st : DkS) (F : Nat → Prop) (h : Rk w x st F) :
    Calls Try.prog 24 #[.pointer (some ⟨x, 0, none⟩)] w fun e w' => e = .returned (.int .i64 st.sync.2) ∧ RkPost w x st.sync.1 F w' := by
  obtain ⟨vs, vl, hi, he⟩ := h
  obtain ⟨_, c1, _, c3⟩ := hi.cells
  have f1 := hi.free 1
  unfold DkS.sync
  cases hu : st.up
  · rw [if_pos rfl]
    rw [hu] at c3
    have FIN := Lib.hid (RkPost.same ⟨vs, vl, hi, he⟩)
    clear hi he hu
    go_enter Try.func24, Try.ntmps24
    go_wp2_with fail
    go_ret
    exact ⟨rfl, FIN.out⟩
  · rw [if_neg (by decide)]
    rw [hu] at c3
    have FIN0 : Hid (RkPost w x { st with L := [] } F (w.setCell ⟨x, 1, none⟩ (.slice none 0 0))) := Lib.hid (RkPost.of hi.setNil ((Frm.refl _ _).setCell _ _ (.inl ((he x).2 (.inl rfl)))) (fun k hk => by
      rcases hk with hk | hk | hk
      · exact .inl ((he k).2 (.inl hk))
      · exact .inl ((he k).2 (.inr (.inl hk)))
      · cases hk))
    have FIN : Hid (RkPost w x { S := st.S, L := [], fuse := st.fuse, up := true } F (w.setCell ⟨x, 1, none⟩ (.slice none 0 0))) := Lib.hid (by have := FIN0.out; rw [hu] at this; exact this)
    clear hi he hu FIN0
    go_enter Try.func24, Try.ntmps24
    go_wp2_with fail
    go_ret
    exact ⟨rfl, FIN.out⟩
theorem RkIn.vl_is {w : World} {x : Nat} {vs vl : Value} {st : DkS} (h : RkIn w x vs vl st) : ∃ va vc, vl = .slice va st.L.length vc := by
  rcases h.loose.2 with ⟨h3, h4⟩ | ⟨l, lc, cur, h3, _⟩
  · exact ⟨none, 0, by rw [h3, h4]⟩
  · exact ⟨_, _, h3⟩
set_option maxHeartbeats 1600000 in
theorem refLoose_any (w : World) (x : Nat) (st : DkS) (F : Nat → Prop) (h : Rk w x st F) :
    Calls Try.prog 27 #[.pointer (some ⟨x, 0, none⟩)] w fun e w' => ∃ v, e = .returned v ∧ RowI w' v (st.L.map (·.1)) ∧ Below w.heap.size w w' := by
  obtain ⟨vs, vl, hi, he⟩ := h
  obtain ⟨va, vc, hvl⟩ := hi.vl_is
  obtain ⟨q, hq⟩ : ∃ q, st.L.length = q := ⟨_, rfl⟩
  have hq640 : q ≤ 640 := by rw [← hq]; exact hi.ok.loose_le
  have HQ := Lib.hid hq
  rw [hq] at hvl
  subst hvl
  have HI := Lib.hid hi
  obtain ⟨i, hinfo, hz0, hz1, hz2⟩ : ∃ i, Try.prog.info? 3 = some i ∧ i.zero = some (.int .i64 0) ∧ i.size = 1 ∧ i.bytes = 8 := by
    have : (Try.prog.info? 3).map (fun i => (i.zero, i.size, i.bytes)) = some (some (.int .i64 0), 1, 8) := by kernel_rfl
    cases hq : Try.prog.info? 3 with
    | none => rw [hq] at this; cases this
    | some i =>
      rw [hq] at this
      simp only [Option.map_some, Option.some.injEq, Prod.mk.injEq] at this
      exact ⟨i, rfl, this.1, this.2.1, this.2.2⟩
  have INF := Lib.hid (And.intro hinfo (And.intro hz0 (And.intro hz1 hz2)))
  clear hi he hq hinfo hz0 hz1 hz2
  go_enter Try.func27, Try.ntmps27
  go_wp2_with fail
  go_loopw [3, 4] (fun vo k wr => ∃ (j : Nat) (v0 : Value), j ≤ q ∧ k = .int .i64 (j : Int) ∧ v0 = vo ∧ Hid (Below w.heap.size w wr) ∧ Hid (wr.ownsRow w.heap.size 3 1 vo j (numsV ((st.L.map (·.1)).take j)))) (fun _ k _ => q + 1 - (intOf k).toNat)
  case atStart => exact ⟨0, _, Nat.zero_le _, rfl, rfl, Lib.hid (Below.refl _ _), Lib.hid (World.ownsRow_nil _ _ _ _)⟩
  case round =>
    obtain ⟨j, vo, hj, rfl, rfl, BB, HO⟩ := hrel
    have hin := HI.out.below BB.out
    obtain ⟨_, d1, _, _⟩ := hin.cells
    by_cases hlt : j < q
    · have hji : (j : Int) < (q : Int) := by omega
      have hjl : j < st.L.length := by rw [HQ.out]; exact hlt
      obtain ⟨l, hva, hcell⟩ := hin.addr HQ.out (by omega)
      have cj := hcell j hjl
      have HT : Hid ((st.L.map (·.1)).take (j + 1) = (st.L.map (·.1)).take j ++ [st.L[j].1]) := Lib.hid (by
        rw [List.take_add_one, List.getElem?_map, List.getElem?_eq_getElem hjl]
        rfl)
      subst hva
      clear hcell hin
      generalize st.L[j].1 = k at cj HT
      obtain ⟨w4, hw4⟩ : ∃ w4, wr.alloc (.cells #[.int .i64 (k : Int)] 3) = w4 := ⟨_, rfl⟩
      have hb4 : Below wr.heap.size wr w4 := by rw [← hw4]; exact (Below.refl _ _).alloc (Nat.le_refl _) _
      have hrow : w4.ownsRow w.heap.size 3 1 vo j (numsV ((st.L.map (·.1)).take j)) := ownsRow_keptN HO.out fun k hk => hb4.block k (HO.out.lt k hk).2
      have hnews : ∀ i u, [Value.int .i64 (k : Int)][i]? = some u → w4.cell? ((⟨wr.heap.size, 0, none⟩ : Addr).add i) = some u := by
        intro i u hi
        cases i with
        | zero =>
          rw [addr_add, ← hw4, World.cell?_alloc_new]
          simpa using hi
        | succ i => simp at hi
      have hbs := BB.out.size
      obtain ⟨v', w5, hap, ho, hg, _⟩ := run_append_own (P := Try.prog) w4 w.heap.size 29 29 3 i _ 1 8 Try.underlying29 INF.out.1 INF.out.2.1 INF.out.2.2.1 INF.out.2.2.2 rfl (by decide) vo j _ hrow ⟨wr.heap.size, 0, none⟩ 1 1 [.int .i64 (k : Int)] rfl hnews (by intro u hu; rw [List.mem_singleton.1 hu]; rfl) (by unfold maxLen; omega) (by omega) (by have := hb4.size; omega)
      have B5 : Hid (Below w.heap.size w w5) := Lib.hid ((chain BB.out hb4).grown hg (by have := hb4.size; omega) (fun k hk => (hrow.lt k hk).1))
      have HO5 : Hid (w5.ownsRow w.heap.size 3 1 v' (j + 1) (numsV ((st.L.map (·.1)).take (j + 1)))) := Lib.hid (by
        rw [HT.out]
        unfold numsV at ho ⊢
        rw [List.map_append]
        exact ho)
      rw [← hw4] at hap
      clear hw4 hb4 hrow hnews ho hg hbs
      go_wp2_with (at_builtin; refine append_run rfl (.tmp 14) (.tmp 23) 29 rfl vo _ _ rfl rfl hap ?_)
      go_roundw
      case rel => exact ⟨j + 1, _, by omega, by go_num, rfl, B5, HO5⟩
      case measure => simp [intOf]; omega
    · have hji : ¬ (j : Int) < (q : Int) := by omega
      have FIN : Hid (RowI wr vo (st.L.map (·.1))) := Lib.hid (by
        have h1 := HO.out
        have hl : (st.L.map (·.1)).length = j := by rw [List.length_map, HQ.out]; omega
        rw [List.take_of_length_le (by omega)] at h1
        rw [← hl] at h1
        exact RowI.of h1)
      clear hin
      go_wp2_with fail
      go_ret
      exact ⟨vo, rfl, FIN.out, BB.out⟩
end Go.Proofs.Yteaiiiikehimgaa
