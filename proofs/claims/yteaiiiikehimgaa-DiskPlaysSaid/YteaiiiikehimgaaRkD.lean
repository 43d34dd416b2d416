/-
  The document's own disk: Crash.
-/
import Derived.Test.YteaiiiikehimgaaRkC
namespace Go.Proofs.Yteaiiiikehimgaa
open Go.RowKit
set_option linter.unusedVariables false
set_option linter.unusedSimpArgs false
theorem wasV_get2 (L : List (Nat × List UInt8)) (j : Nat) (hj : j < L.length) : (L.flatMap WasV)[j * 2 + 1]? = some (.string (Str L[j].2)) := by
  induction L generalizing j with
  | nil => simp at hj
  | cons p L ih =>
    rw [List.flatMap_cons]
    cases j with
    | zero => rfl
    | succ j =>
      have hj2 : j < L.length := by simpa using hj
      rw [List.getElem?_append_right (by show 2 ≤ _; omega)]
      have e : (j + 1) * 2 + 1 - (WasV p).length = j * 2 + 1 := by show (j + 1) * 2 + 1 - 2 = _; omega
      rw [e, ih j hj2]
      simp
theorem RkIn.addr2 {w : World} {x q vc l : Nat} {vs : Value} {st : DkS} (h : RkIn w x vs (.slice (some ⟨l, 0, none⟩) q vc) st) (j : Nat) (hj : j < st.L.length) : w.cell? ⟨l, j * 2 + 1, none⟩ = some (.string (Str st.L[j].2)) := by
  rcases h.loose.2 with ⟨h1, h2⟩ | ⟨l2, cap, cur, hv, _⟩
  · cases h1
  · have := h.loose.cells (g := l) rfl (j * 2 + 1) _ (wasV_get2 st.L j hj)
    rw [addr_add, Nat.zero_add] at this
    exact this
set_option maxHeartbeats 6400000 in
set_option maxRecDepth 20000 in
theorem refCrash_is (w : World) (x : Nat) (st : DkS) (F : Nat → Prop) (h : Rk w x st F) (ka : Option Addr) (klen kcap : Nat) (ks : List Int) (hkeep : KeepIn F w ka klen kcap ks) :
    Calls Try.prog 25 #[.pointer (some ⟨x, 0, none⟩), .slice ka klen kcap] w (Void (RkPost w x (st.crash ks) F)) := by
  obtain ⟨vs, vl, hin, he⟩ := h
  obtain ⟨g, cap, rfl, h1, h2⟩ := hin.vs_is
  obtain ⟨va, vc, rfl⟩ := hin.vl_is
  obtain ⟨m, hm⟩ : ∃ m, st.S.length = m := ⟨_, rfl⟩
  obtain ⟨q, hq⟩ : ∃ q, st.L.length = q := ⟨_, rfl⟩
  have hq640 : q ≤ 640 := by rw [← hq]; exact hin.ok.loose_le
  have HM := Lib.hid hm
  have HQ := Lib.hid hq
  have HK := Lib.hid hkeep
  have hkl : Hid (klen = ks.length) := Lib.hid hkeep.1.symm
  have hkc : (klen : Int) ≤ 9223372036854775807 := by have h3 := hkeep.2.1; have h4 := hkeep.2.2.1; unfold maxLen at h4; omega
  have hxF : Hid (F x) := Lib.hid ((he x).2 (.inl rfl))
  have hgF : Hid (F g) := Lib.hid ((he g).2 (.inr (.inl rfl)))
  have HAD := Lib.hid hin.ok.had
  rw [hm] at hin h1
  rw [hq] at hin
  have H0 : Hid (RkIn w x (.slice (some ⟨g, 0, none⟩) m cap) (.slice va q vc) { st with S := rsT st.S st.L ks 0 }) := Lib.hid hin
  clear hin he hm hq hkeep
  go_enter Try.func25, Try.ntmps25
  go_wp2_with fail
  go_loopw [4] (fun i wr => ∃ j : Nat, j ≤ q ∧ i = .int .i64 (j : Int) ∧ Hid (RkIn wr x (.slice (some ⟨g, 0, none⟩) m cap) (.slice va q vc) { st with S := rsT st.S st.L ks j }) ∧ Hid (Frm F w wr)) (fun i _ => q + 1 - (intOf i).toNat)
  case atStart => exact ⟨0, Nat.zero_le _, rfl, H0, Lib.hid (Frm.refl _ _)⟩
  case round =>
    obtain ⟨j, hj, rfl, HI, HF⟩ := hrel
    obtain ⟨d0, d1, d2, d3⟩ := HI.out.cells
    by_cases hlt : j < q
    · have hji : (j : Int) < (q : Int) := by omega
      have hjl : j < st.L.length := by rw [HQ.out]; exact hlt
      obtain ⟨l, hva, hcell⟩ := HI.out.addr HQ.out (by omega)
      subst hva
      have cj := hcell j hjl
      have cj2 := HI.out.addr2 j hjl
      have hpm := HAD.out st.L[j] (List.getElem_mem hjl)
      have hset : Hid (loseB ks j = true → ({ st with S := rsT st.S st.L ks (j + 1) } : DkS) = { st with S := (rsT st.S st.L ks j).set st.L[j].1 st.L[j].2 }) := Lib.hid (fun hl => by
        show ({ st with S := (if loseB ks j = true then (rsT st.S st.L ks j).set (st.L.getD j (0, [])).1 (st.L.getD j (0, [])).2 else rsT st.S st.L ks j) } : DkS) = _
        rw [if_pos hl, List.getD_eq_getElem?_getD, List.getElem?_eq_getElem hjl]
        rfl)
      have hkeepS : Hid (loseB ks j = false → ({ st with S := rsT st.S st.L ks (j + 1) } : DkS) = { st with S := rsT st.S st.L ks j }) := Lib.hid (fun hl => by
        show ({ st with S := (if loseB ks j = true then (rsT st.S st.L ks j).set (st.L.getD j (0, [])).1 (st.L.getD j (0, [])).2 else rsT st.S st.L ks j) } : DkS) = _
        rw [if_neg (by rw [hl]; decide)])
      have hm2 : ({ st with S := rsT st.S st.L ks j } : DkS).S.length = m := by rw [← HM.out]; exact rsT_len ..
      change st.L[j].1 < st.S.length ∧ _ at hpm
      rw [HM.out] at hpm
      replace cj : wr.cell? ⟨l, j * 2, none⟩ = some (.int .i64 ((st.L[j].1 : Nat) : Int)) := cj
      replace cj2 : wr.cell? ⟨l, j * 2 + 1, none⟩ = some (.string (Str st.L[j].2)) := cj2
      clear hcell
      generalize st.L[j].1 = n at cj hset hpm
      generalize st.L[j].2 = v at cj2 hset hpm
      obtain ⟨hnm, hv256⟩ := hpm
      obtain ⟨X, HX⟩ : ∃ X, Hid (Str v = X) := ⟨_, Lib.hid rfl⟩
      rw [HX.out] at cj2
      obtain ⟨cg, fg⟩ := HI.out.sec2 hm2 n hnm
      have hqv := HI.out.caps
      generalize Str (List.getD _ n []) = old at cg
      have hni : (n : Int) < (m : Int) := by omega
      have key : (loseB ks j = true ∧ ((klen : Int) ≤ (j : Int) ∨ ((j : Int) < (klen : Int) ∧ ∃ x0 z, ka = some x0 ∧ wr.cell? (x0.add j) = some (.int .i64 z) ∧ z.tmod 2 = 0))) ∨
          (loseB ks j = false ∧ (j : Int) < (klen : Int) ∧ ∃ x0 z, ka = some x0 ∧ wr.cell? (x0.add j) = some (.int .i64 z) ∧ (z.tmod 2 = 1 ∨ z.tmod 2 = -1)) := by
        by_cases hk : klen ≤ j
        · refine .inl ⟨?_, .inl (by omega)⟩
          unfold loseB
          rw [decide_eq_true (by rw [← hkl.out]; exact hk)]
          rfl
        · have hkj : j < klen := by omega
          have hji2 : (j : Int) < (klen : Int) := by omega
          rcases HK.out.2.2.2 with ⟨_, h3, _⟩ | ⟨x0, hx0, hc⟩
          · omega
          · have hc0 := hc wr HF.out j hkj
            have hlz : loseB ks j = !(oddB (ks.getD j 0)) := by
              unfold loseB
              rw [decide_eq_false (by rw [← hkl.out]; omega)]
              rfl
            rcases tmod_two (ks.getD j 0) with ⟨h3, h4⟩ | ⟨h3, h4⟩ | ⟨h3, h4⟩
            · exact .inl ⟨by rw [hlz, h4]; rfl, .inr ⟨hji2, x0, _, hx0, hc0, h3⟩⟩
            · exact .inr ⟨by rw [hlz, h4]; rfl, hji2, x0, _, hx0, hc0, .inl h3⟩
            · exact .inr ⟨by rw [hlz, h4]; rfl, hji2, x0, _, hx0, hc0, .inr h3⟩
      rcases key with ⟨hl, hk | ⟨hk, x0, z, hka, cz, ht⟩⟩ | ⟨hl, hk, x0, z, hka, cz, ht | ht⟩
      · clear HK
        have HI2 : Hid (RkIn (wr.setCell ⟨g, n, none⟩ (.string X)) x (.slice (some ⟨g, 0, none⟩) m cap) (.slice (some ⟨l, 0, none⟩) q vc) { st with S := rsT st.S st.L ks (j + 1) }) := Lib.hid (by
          have h1 := HI.out.setSec2 hm2 n X (by rw [← HX.out, Str_size]; exact hv256)
          rw [hset.out hl]
          rw [show X.data.toList = v from by rw [← HX.out, Str_list]] at h1
          exact h1)
        have HF2 : Hid (Frm F w (wr.setCell ⟨g, n, none⟩ (.string X))) := Lib.hid (HF.out.setCell _ _ (.inl hgF.out))
        clear hl hset hm2
        go_wp2_with fail
        refine wp_region_still_tail 21 (by kernel_rfl) (by kernel_rfl) ?_
        simp only [List.take_succ_cons, List.take_zero, List.drop_succ_cons, List.drop_zero]
        change wpStill _ _ wr.drew _ _ _
        iterate 21 still_step
        refine wpStill_nil ?_
        change wpList _ _ _ _ _ wr.drew
        have HI3 : Hid (RkIn (wr.drew.setCell ⟨g, n, none⟩ (.string X)) x (.slice (some ⟨g, 0, none⟩) m cap) (.slice (some ⟨l, 0, none⟩) q vc) { st with S := rsT st.S st.L ks (j + 1) }) := Lib.hid (HI2.out.kept fun _ _ => rfl)
        have HF3 : Hid (Frm F w (wr.drew.setCell ⟨g, n, none⟩ (.string X))) := Lib.hid ⟨HF2.out.os, HF2.out.tape, HF2.out.output, HF2.out.size, HF2.out.block⟩
        go_wp2_with fail
        go_roundw
        case rel => exact ⟨j + 1, by omega, by go_num, HI3, HF3⟩
        case measure => simp [intOf]; omega
      · subst hka
        have HI2 : Hid (RkIn (wr.setCell ⟨g, n, none⟩ (.string X)) x (.slice (some ⟨g, 0, none⟩) m cap) (.slice (some ⟨l, 0, none⟩) q vc) { st with S := rsT st.S st.L ks (j + 1) }) := Lib.hid (by
          have h1 := HI.out.setSec2 hm2 n X (by rw [← HX.out, Str_size]; exact hv256)
          rw [hset.out hl]
          rw [show X.data.toList = v from by rw [← HX.out, Str_list]] at h1
          exact h1)
        have HF2 : Hid (Frm F w (wr.setCell ⟨g, n, none⟩ (.string X))) := Lib.hid (HF.out.setCell _ _ (.inl hgF.out))
        clear hl hset hm2
        go_wp2_with fail
        refine wp_region_still_tail 21 (by kernel_rfl) (by kernel_rfl) ?_
        simp only [List.take_succ_cons, List.take_zero, List.drop_succ_cons, List.drop_zero]
        change wpStill _ _ wr.drew _ _ _
        iterate 21 still_step
        refine wpStill_nil ?_
        change wpList _ _ _ _ _ wr.drew
        have HI3 : Hid (RkIn (wr.drew.setCell ⟨g, n, none⟩ (.string X)) x (.slice (some ⟨g, 0, none⟩) m cap) (.slice (some ⟨l, 0, none⟩) q vc) { st with S := rsT st.S st.L ks (j + 1) }) := Lib.hid (HI2.out.kept fun _ _ => rfl)
        have HF3 : Hid (Frm F w (wr.drew.setCell ⟨g, n, none⟩ (.string X))) := Lib.hid ⟨HF2.out.os, HF2.out.tape, HF2.out.output, HF2.out.size, HF2.out.block⟩
        go_wp2_with fail
        go_roundw
        case rel => exact ⟨j + 1, by omega, by go_num, HI3, HF3⟩
        case measure => simp [intOf]; omega
      · subst hka
        have HI2 : Hid (RkIn wr x (.slice (some ⟨g, 0, none⟩) m cap) (.slice (some ⟨l, 0, none⟩) q vc) { st with S := rsT st.S st.L ks (j + 1) }) := Lib.hid (by
          rw [hkeepS.out hl]
          exact HI.out)
        clear hl hset hm2
        go_wp2_with fail
        go_roundw
        case rel => exact ⟨j + 1, by omega, by go_num, HI2, HF⟩
        case measure => simp [intOf]; omega
      · subst hka
        have HI2 : Hid (RkIn wr x (.slice (some ⟨g, 0, none⟩) m cap) (.slice (some ⟨l, 0, none⟩) q vc) { st with S := rsT st.S st.L ks (j + 1) }) := Lib.hid (by
          rw [hkeepS.out hl]
          exact HI.out)
        clear hl hset hm2
        go_wp2_with fail
        go_roundw
        case rel => exact ⟨j + 1, by omega, by go_num, HI2, HF⟩
        case measure => simp [intOf]; omega
    · have hji : ¬ (j : Int) < (q : Int) := by omega
      have f1 := HI.out.free 1
      have f2 := HI.out.free 2
      have f3 := HI.out.free 3
      have hjq : j = st.L.length := by rw [HQ.out]; omega
      have r1 := HI.out.setNil
      have r2 := r1.setFuse (-1) (by omega) (by omega)
      have r3 := r2.setUp true
      obtain ⟨_, e1, e2, e3⟩ := r1.cells
      have g2 := r1.free 2
      obtain ⟨_, _, _, k3⟩ := r2.cells
      have g3 := r2.free 3
      have FIN : Hid (RkPost w x (st.crash ks) F (((wr.setCell ⟨x, 1, none⟩ (.slice none 0 0)).setCell ⟨x, 2, none⟩ (.int .i64 (-1))).setCell ⟨x, 3, none⟩ (.bool false))) := Lib.hid (by
        have h9 : st.crash ks = { st with S := rsT st.S st.L ks j, L := [], fuse := -1, up := true } := by rw [hjq]; rfl
        rw [h9]
        refine RkPost.of r3 (((HF.out.setCell ⟨x, 1, none⟩ _ (.inl hxF.out)).setCell ⟨x, 2, none⟩ _ (.inl hxF.out)).setCell ⟨x, 3, none⟩ _ (.inl hxF.out)) fun k hk => ?_
        rcases hk with rfl | hk | hk
        · exact .inl hxF.out
        · have hk : g = k := Option.some.inj hk
          subst hk
          exact .inl hgF.out
        · cases hk)
      clear r1 r2 r3 hjq
      go_wp2_with fail
      go_end0
      exact ⟨rfl, FIN.out⟩
end Go.Proofs.Yteaiiiikehimgaa
