/-
  The document's own disk: Write, whatever it is asked.
-/
import Derived.Test.YteaiiiikehimgaaRkW
import Derived.Test.YteaiiiikehimgaaLastOp
namespace Go.Proofs.Yteaiiiikehimgaa
open Go.RowKit
set_option linter.unusedVariables false
set_option linter.unusedSimpArgs false
theorem RkIn.grow {wr w2 : World} {x : Nat} {vs vl v' : Value} {st : DkS} (h : RkIn wr x vs vl st) (hb : Below wr.heap.size wr w2) (p : Nat × List UInt8) (ho : w2.ownsRow 0 72 2 v' (st.L.length + 1) ((st.L ++ [p]).flatMap WasV)) (N1 : Nat) (hv : v'.ownBlock = some N1) (hN : wr.heap.size ≤ N1)
    (h1 : p.1 < st.S.length) (h2 : p.2.length = 256) (h3 : p.1 ∉ st.L.map (·.1)) : RkIn (w2.setCell ⟨x, 1, none⟩ v') x vs v' { st with L := st.L ++ [p] } := by
  have hx : x < wr.heap.size := h.lt x (.inl rfl)
  have hg := h.below hb
  refine ⟨by rw [heap_setCell_same w2 x 1 _ _ _ hg.cell]; rfl, ownsRow_keptN hg.secs fun k hk => heap_setCell_other _ _ k _ (fun e => h.sx (by rw [hk, e])), ?_, h.sx, by rw [hv]; intro e; injection e with e; omega, fun k hk e => ?_, ?_⟩
  · have := ownsRow_keptN (w' := w2.setCell ⟨x, 1, none⟩ v') ho fun k hk => heap_setCell_other _ _ k _ (fun e => by rw [hv] at hk; injection hk with hk; have e : k = x := e; omega)
    simpa using this
  · have := h.lt k (.inr (.inl hk))
    rw [hv] at e
    injection e with e
    omega
  · refine { lens := h.ok.lens, had := fun q hq => ?_, keys := ?_, few := h.ok.few, least := h.ok.least, fuse0 := h.ok.fuse0, fuse1 := h.ok.fuse1 }
    · rcases List.mem_append.1 hq with hq | hq
      · exact h.ok.had q hq
      · rw [List.mem_singleton.1 hq]; exact ⟨h1, h2⟩
    · show ((st.L ++ [p]).map (·.1)).Nodup
      rw [List.map_append, List.nodup_append]
      refine ⟨h.ok.keys, by simp, fun a ha b hb2 => ?_⟩
      rw [List.map_singleton, List.mem_singleton] at hb2
      intro e
      exact h3 (by rw [← hb2, ← e]; exact ha)
set_option maxHeartbeats 400000 in
theorem refWrite_down (w : World) (x : Nat) (st : DkS) (F : Nat → Prop) (h : Rk w x st F) (i : Int) (s : ByteArray) (hu : st.up = false) :
    Calls Try.prog 23 #[.pointer (some ⟨x, 0, none⟩), .int .i64 i, .string s] w fun e w' => e = .returned (.int .i64 5) ∧ w = w' := by
  obtain ⟨vs, vl, hi, he⟩ := h
  obtain ⟨_, _, _, c3⟩ := hi.cells
  rw [hu] at c3
  clear hi he hu
  go_enter Try.func23, Try.ntmps23
  try simp only [List.append_eq, List.cons_append, List.nil_append]
  go_wp2_with fail
  go_ret
  exact ⟨rfl, rfl⟩
set_option maxHeartbeats 800000 in
theorem refWrite_arg (w : World) (x : Nat) (st : DkS) (F : Nat → Prop) (h : Rk w x st F) (i : Int) (s : ByteArray) (hu : st.up = true) (hn : i < 0 ∨ (0 ≤ i ∧ (st.S.length : Int) ≤ i) ∨ (0 ≤ i ∧ i < (st.S.length : Int) ∧ ((s.size : Int) != 256) = true)) :
    Calls Try.prog 23 #[.pointer (some ⟨x, 0, none⟩), .int .i64 i, .string s] w fun e w' => e = .returned (.int .i64 1) ∧ w = w' := by
  obtain ⟨vs, vl, hi, he⟩ := h
  obtain ⟨g, cap, rfl, h1, h2⟩ := hi.vs_is
  obtain ⟨c0, _, _, c3⟩ := hi.cells
  rw [hu] at c3
  clear hi he hu
  generalize st.S.length = m at *
  rcases hn with hn | ⟨hn, hn2⟩ | ⟨hn, hn2, hn3⟩
  all_goals
    go_enter Try.func23, Try.ntmps23
    try simp only [List.append_eq, List.cons_append, List.nil_append]
    go_wp2_with fail
    go_ret
    exact ⟨rfl, rfl⟩
set_option maxHeartbeats 800000 in
theorem refWrite_blown (w : World) (x : Nat) (st : DkS) (F : Nat → Prop) (h : Rk w x st F) (i : Nat) (s : ByteArray) (hu : st.up = true) (hi : i < st.S.length) (hs : s.size = 256) (hf : st.fuse = 0) :
    Calls Try.prog 23 #[.pointer (some ⟨x, 0, none⟩), .int .i64 (i : Int), .string s] w fun e w' => e = .returned (.int .i64 5) ∧ RkPost w x { st with up := false } F w' := by
  obtain ⟨vs, vl, hin, he⟩ := h
  obtain ⟨g, cap, rfl, h1, h2⟩ := hin.vs_is
  obtain ⟨c0, _, c2, c3⟩ := hin.cells
  have f3 := hin.free 3
  have FIN : Hid (RkPost w x { st with up := false } F (w.setCell ⟨x, 3, none⟩ (.bool true))) := Lib.hid ⟨F, ⟨_, _, hin.setUp false, he⟩, (Frm.refl _ _).setCell _ _ (.inl ((he x).2 (.inl rfl))), fun k hk => .inl hk⟩
  rw [hu] at c3
  rw [hf] at c2
  clear hin he hu hf
  have hs2 : ((s.size : Int) != 256) = false := by rw [hs]; rfl
  generalize st.S.length = m at *
  have hii : (i : Int) < (m : Int) := by omega
  clear hs
  go_enter Try.func23, Try.ntmps23
  try simp only [List.append_eq, List.cons_append, List.nil_append]
  go_wp2_with fail
  go_ret
  exact ⟨rfl, FIN.out⟩
/-- How the loop looks for a sector. -/
def metB (L : List (Nat × List UInt8)) (n j : Nat) : Bool := (L.take j).any fun p => p.1 == n
theorem metB_step (L : List (Nat × List UInt8)) (n j : Nat) (hj : j < L.length) : metB L n (j + 1) = (metB L n j || decide (L[j].1 = n)) := by
  unfold metB
  rw [List.take_add_one, List.getElem?_eq_getElem hj, List.any_append]
  simp
  rfl
theorem metB_all (L : List (Nat × List UInt8)) (n : Nat) : metB L n L.length = L.any fun p => p.1 == n := by
  unfold metB
  rw [List.take_length]
theorem RkIn.sec2 {w : World} {x g m cap : Nat} {vl : Value} {st : DkS} (h : RkIn w x (.slice (some ⟨g, 0, none⟩) m cap) vl st) (hm : st.S.length = m) (n : Nat) (hn : n < m) : w.cell? ⟨g, n, none⟩ = some (.string (Str (st.S.getD n []))) ∧ w.frozen? ⟨g, n, none⟩ = false := by
  subst hm
  have := h.sec n hn
  rw [List.getD_eq_getElem?_getD, List.getElem?_eq_getElem hn]
  exact this
theorem RkIn.setSec2 {w : World} {x g m cap : Nat} {vl : Value} {st : DkS} (h : RkIn w x (.slice (some ⟨g, 0, none⟩) m cap) vl st) (hm : st.S.length = m) (n : Nat) (s : ByteArray) (hs : s.size = 256) : RkIn (w.setCell ⟨g, n, none⟩ (.string s)) x (.slice (some ⟨g, 0, none⟩) m cap) vl { st with S := st.S.set n s.data.toList } := by
  subst hm
  exact h.setSec n s hs
theorem RkIn.addr {w : World} {x q vc : Nat} {vs : Value} {va : Option Addr} {st : DkS} (h : RkIn w x vs (.slice va q vc) st) (hq : st.L.length = q) (hp : 0 < q) : ∃ l, va = some ⟨l, 0, none⟩ ∧ ∀ j (hj : j < st.L.length), w.cell? ⟨l, j * 2, none⟩ = some (.int .i64 ((st.L[j].1 : Nat) : Int)) := by
  rcases h.loose.2 with ⟨_, h2⟩ | ⟨l, cap, cur, hv, _⟩
  · omega
  · injection hv with h1 h2 h3
    subst h1
    refine ⟨l, rfl, fun j hj => ?_⟩
    have := h.loose.cells (g := l) rfl (j * 2) _ (wasV_get st.L j hj)
    rw [addr_add, Nat.zero_add] at this
    exact this
theorem RkIn.caps {w : World} {x q vc : Nat} {vs : Value} {a : Addr} {st : DkS} (h : RkIn w x vs (.slice (some a) q vc) st) : q ≤ vc ∧ vc ≤ maxLen := by
  rcases h.loose.2 with ⟨h1, _⟩ | ⟨l, cap, cur, hv, _, _, h3, h4, _⟩
  · cases h1
  · injection hv with h1 h2 h5
    omega
theorem RkIn.caps0 {w : World} {x q vc : Nat} {vs : Value} {st : DkS} (h : RkIn w x vs (.slice none q vc) st) (hq : st.L.length = q) : q = 0 ∧ vc = 0 := by
  rcases h.loose.2 with ⟨h1, h2⟩ | ⟨l, cap, cur, hv, _⟩
  · injection h1 with h3 h4 h5
    omega
  · cases hv
theorem RkPost.of {w w' : World} {x : Nat} {vs vl : Value} {st : DkS} {F : Nat → Prop} (hk : RkIn w' x vs vl st) (hf : Frm F w w') (hs : ∀ k, RkF x vs vl k → F k ∨ w.heap.size ≤ k) : RkPost w x st F w' := ⟨RkF x vs vl, ⟨vs, vl, hk, fun _ => Iff.rfl⟩, hf, hs⟩
theorem wrote_met (st : DkS) (n : Nat) (s : List UInt8) (h : (st.L.any fun p => p.1 == n) = true) : st.wrote n s = { st with fuse := (if 0 < st.fuse then st.fuse - 1 else st.fuse), S := st.S.set n s } := by
  unfold DkS.wrote DkS.loosened
  simp only [h, if_true]
theorem wrote_new (st : DkS) (n : Nat) (s : List UInt8) (h : (st.L.any fun p => p.1 == n) = false) : st.wrote n s = { st with fuse := (if 0 < st.fuse then st.fuse - 1 else st.fuse), L := st.L ++ [(n, st.S.getD n [])], S := st.S.set n s } := by
  unfold DkS.wrote DkS.loosened
  simp only [h]
  rfl
set_option maxHeartbeats 6400000 in
set_option maxRecDepth 20000 in
theorem refWrite_yes (w : World) (x : Nat) (st : DkS) (F : Nat → Prop) (h : Rk w x st F) (n : Nat) (s : ByteArray) (hu : st.up = true) (hn : n < st.S.length) (hs : s.size = 256) (hf : st.fuse ≠ 0) :
    Calls Try.prog 23 #[.pointer (some ⟨x, 0, none⟩), .int .i64 (n : Int), .string s] w fun e w' => e = .returned (.int .i64 0) ∧ RkPost w x (st.wrote n s.data.toList) F w' := by
  obtain ⟨vs, vl, hin, he⟩ := h
  obtain ⟨g, cap, rfl, h1, h2⟩ := hin.vs_is
  obtain ⟨c0, c1, c2, c3⟩ := hin.cells
  have f2 := hin.free 2
  obtain ⟨st1, hst1⟩ : ∃ st1 : DkS, { st with fuse := (if 0 < st.fuse then st.fuse - 1 else st.fuse) } = st1 := ⟨_, rfl⟩
  have hS1 : st1.S = st.S := by rw [← hst1]
  have hL1 : st1.L = st.L := by rw [← hst1]
  rw [hu] at c3
  have hs2 : ((s.size : Int) != 256) = false := by rw [hs]; rfl
  have hf2 : (st.fuse == 0) = false := by simpa using hf
  have hf0 := hin.ok.fuse0
  have hf1 := hin.ok.fuse1
  have hni : (n : Int) < (st.S.length : Int) := by omega
  have hxF : F x := (he x).2 (.inl rfl)
  have key : (0 < st.fuse ∧ Hid (RkIn (w.setCell ⟨x, 2, none⟩ (.int .i64 (st.fuse - 1))) x (.slice (some ⟨g, 0, none⟩) st1.S.length cap) vl st1) ∧ Hid (Frm F w (w.setCell ⟨x, 2, none⟩ (.int .i64 (st.fuse - 1))))) ∨
      (¬ 0 < st.fuse ∧ Hid (RkIn w x (.slice (some ⟨g, 0, none⟩) st1.S.length cap) vl st1) ∧ Hid (Frm F w w)) := by
    by_cases hpos : 0 < st.fuse
    · refine .inl ⟨hpos, Lib.hid ?_, Lib.hid ((Frm.refl _ _).setCell _ _ (.inl hxF))⟩
      have := hin.setFuse (st.fuse - 1) (by omega) (by omega)
      rw [hS1, ← hst1, if_pos hpos]
      exact this
    · refine .inr ⟨hpos, Lib.hid ?_, Lib.hid (Frm.refl _ _)⟩
      rw [hS1, ← hst1, if_neg hpos]
      exact hin
  have hFs : Hid (∀ k, RkF x (.slice (some ⟨g, 0, none⟩) st1.S.length cap) vl k → F k) := Lib.hid fun k hk => (he k).2 (by rw [hS1] at hk; exact hk)
  obtain ⟨va, vc, hvl⟩ : ∃ va vc, vl = .slice va st1.L.length vc := by
    rw [hL1]
    rcases hin.loose.2 with ⟨h3, h4⟩ | ⟨l, lc, cur, h3, _⟩
    · exact ⟨none, 0, by rw [h3, h4]⟩
    · exact ⟨_, _, h3⟩
  have hq640 : st1.L.length ≤ 640 := by rw [hL1]; exact hin.ok.loose_le
  have WM := Lib.hid (wrote_met st n s.data.toList)
  have WN := Lib.hid (wrote_new st n s.data.toList)
  have hS1' := Lib.hid hS1
  have hL1' := Lib.hid hL1
  have hst1' := Lib.hid hst1
  rw [← hS1] at c0 h1 hni hn
  subst hvl
  obtain ⟨m, hm⟩ : ∃ m, st1.S.length = m := ⟨_, rfl⟩
  obtain ⟨q, hq⟩ : ∃ q, st1.L.length = q := ⟨_, rfl⟩
  have hm' := Lib.hid hm
  have hq' := Lib.hid hq
  rw [hm] at c0 h1 hni hn key hFs
  rw [hq] at c1 hq640 key hFs
  have hw0 : Hid (x < w.heap.size) := Lib.hid (hin.lt x (.inl rfl))
  clear hin he hS1 hL1 hst1 hm hq hu
  generalize st.fuse = fu at *
  rcases key with ⟨hpos, H1, HF⟩ | ⟨hpos, H1, HF⟩
  all_goals
    go_enter Try.func23, Try.ntmps23
    try simp only [List.append_eq, List.cons_append, List.nil_append]
    go_wp2_with fail
    go_loopw [7, 8] (fun b i wr => ∃ (j : Nat) (b0 : Bool), j ≤ q ∧ i = .int .i64 (j : Int) ∧ b = .bool b0 ∧ Hid (metB st1.L n j = b0) ∧ Hid (RkIn wr x (.slice (some ⟨g, 0, none⟩) m cap) (.slice va q vc) st1) ∧ Hid (Frm F w wr)) (fun _ i _ => q + 1 - (intOf i).toNat)
    case atStart => exact ⟨0, false, Nat.zero_le _, rfl, rfl, Lib.hid rfl, H1, HF⟩
    case round =>
      obtain ⟨j, b0, hj, rfl, rfl, hb0, H1, HF⟩ := hrel
      obtain ⟨d0, d1, _, _⟩ := H1.out.cells
      by_cases hlt : j < q
      · have hji : (j : Int) < (q : Int) := by omega
        have hjl : j < st1.L.length := by rw [hq'.out]; exact hlt
        have hstep := Lib.hid (metB_step st1.L n j hjl)
        cases b0
        · obtain ⟨l, hva, hcell⟩ := H1.out.addr hq'.out (by omega)
          have cj := hcell j hjl
          subst hva
          clear hcell
          obtain ⟨k, hk⟩ : ∃ k, st1.L[j].1 = k := ⟨_, rfl⟩
          rw [hk] at cj hstep
          clear hk
          by_cases hkn : k = n
          · have hkb : ((k : Int) == (n : Int)) = true := by rw [hkn]; simp
            have hnext : Hid (metB st1.L n (j + 1) = true) := Lib.hid (by rw [hstep.out, hb0.out, hkn]; simp)
            clear hkn
            go_wp2_with fail
            go_roundw
            case rel => exact ⟨j + 1, true, by omega, by go_num, rfl, hnext, H1, HF⟩
            case measure => simp [intOf]; omega
          · have hkb : ((k : Int) == (n : Int)) = false := by simpa using (fun e : (k : Int) = (n : Int) => hkn (by omega))
            have hnext : Hid (metB st1.L n (j + 1) = false) := Lib.hid (by rw [hstep.out, hb0.out]; simp [hkn])
            clear hkn
            go_wp2_with fail
            go_roundw
            case rel => exact ⟨j + 1, false, by omega, by go_num, rfl, hnext, H1, HF⟩
            case measure => simp [intOf]; omega
        · have hnext : Hid (metB st1.L n (j + 1) = true) := Lib.hid (by rw [hstep.out, hb0.out]; rfl)
          go_wp2_with fail
          go_roundw
          case rel => exact ⟨j + 1, true, by omega, by go_num, rfl, hnext, H1, HF⟩
          case measure => simp [intOf]; omega
      · have hji : ¬ (j : Int) < (q : Int) := by omega
        have hall : Hid ((st1.L.any fun p => p.1 == n) = b0) := Lib.hid (by rw [← metB_all, hq'.out, ← hb0.out, show j = q by omega])
        cases b0
        · obtain ⟨cs, fs⟩ := H1.out.sec2 hm'.out n hn
          obtain ⟨X, HX⟩ : ∃ X, Hid (Str (st1.S.getD n []) = X) := ⟨_, Lib.hid rfl⟩
          rw [HX.out] at cs
          obtain ⟨W1, hW1⟩ : ∃ W1, wr.drew.alloc (.cells #[.int .i64 (n : Int), .string X] 72) = W1 := ⟨_, rfl⟩
          have hB1 : Below wr.heap.size wr W1 := by rw [← hW1]; exact ((Below.refl _ wr).drew).alloc (Nat.le_refl _) _
          have hK1 := H1.out.below hB1
          obtain ⟨c', w2, hap, how, hb2⟩ := was_append (L := st1.L) (vl := .slice va q vc) hK1.loose (by rw [hq'.out]; exact hq640) wr.heap.size (n, st1.S.getD n []) (by rw [← hW1, HX.out]; exact heap_alloc_new _ _)
          have hcut : cutV (.slice va q vc) st1.L.length = .slice va q q := by rw [hq'.out]; rfl
          rw [hcut, hq'.out] at hap
          have hB2 : Below wr.heap.size wr w2 := chain hB1 hb2
          have hNW : wr.heap.size ≤ W1.heap.size := hB1.size
          obtain ⟨N1, hN1⟩ : ∃ N1, W1.heap.size = N1 := ⟨_, rfl⟩
          rw [hN1] at hap how hNW
          rw [hq'.out] at how
          have H2 := H1.out.below hB2
          have GR := H1.out.grow hB2 (n, st1.S.getD n []) (by rw [hq'.out]; exact how) N1 rfl hNW (by rw [hm'.out]; exact hn) (by
            rw [List.getD_eq_getElem?_getD, List.getElem?_eq_getElem (by rw [hm'.out]; exact hn)]
            exact H1.out.ok.lens _ (List.getElem_mem _)) (by
            intro hx
            obtain ⟨p, hp, hpe⟩ := List.mem_map.1 hx
            have : (st1.L.any fun p => p.1 == n) = true := List.any_eq_true.2 ⟨p, hp, by simpa using hpe⟩
            rw [hall.out] at this
            cases this)
          obtain ⟨e0, e1, _, _⟩ := H2.cells
          have e1f := H2.free 1
          obtain ⟨e2, _⟩ := H2.sec2 hm'.out n hn
          rw [HX.out] at e2
          obtain ⟨r0, _, _, _⟩ := GR.cells
          obtain ⟨r2, r3⟩ := GR.sec2 (show _ = m from hm'.out) n hn
          rw [show Str (({ st1 with L := st1.L ++ [(n, st1.S.getD n [])] } : DkS).S.getD n []) = X from HX.out] at r2
          obtain ⟨k0, k1, _, _⟩ := hK1.cells
          obtain ⟨k2, _⟩ := hK1.sec2 hm'.out n hn
          rw [HX.out] at k2
          rw [← hW1] at k0 k1 k2 hap
          have FINeq : ({ st1 with L := st1.L ++ [(n, st1.S.getD n [])], S := st1.S.set n s.data.toList } : DkS) = st.wrote n s.data.toList := by
            rw [WN.out (by rw [← hL1'.out]; exact hall.out), ← hS1'.out, ← hL1'.out, ← hst1'.out]
          have FIN : Hid (RkPost w x (st.wrote n s.data.toList) F ((w2.setCell ⟨x, 1, none⟩ (.slice (some ⟨N1, 0, none⟩) (q + 1) c')).setCell ⟨g, n, none⟩ (.string s))) := Lib.hid (by
            rw [← FINeq]
            have hF2 : Frm F w w2 := HF.out.trans (G := fun _ => False) (Frm.of_below hB2) (fun _ hx => hx.elim)
            refine RkPost.of (GR.setSec2 (show _ = m from hm'.out) n s hs) ((hF2.setCell ⟨x, 1, none⟩ _ (.inl hxF)).setCell ⟨g, n, none⟩ _ (.inl (hFs.out g (.inr (.inl rfl))))) (fun k hk => ?_)
            rcases hk with hk | hk | hk
            · exact .inl (hFs.out k (.inl hk))
            · exact .inl (hFs.out k (.inr (.inl hk)))
            · have hk : N1 = k := Option.some.inj hk
              exact .inr (by have := HF.out.size; omega))
          have hxr := H1.out.lt x (.inl rfl)
          clear hB1 hK1 hcut hB2 H2 GR FINeq how hb2 hW1 hN1 hall hb0
          rcases va with _ | ⟨vb, vo, vp⟩
          · obtain ⟨hq0, hvc0⟩ := H1.out.caps0 hq'.out
            subst hq0 hvc0
            go_wp2_with fail
            refine region_ways (fun w' => w'.cell? ⟨x, 0, none⟩ = some (.slice (some ⟨g, 0, none⟩) m cap) ∧ w'.cell? ⟨x, 1, none⟩ = some (.slice none 0 0) ∧ w'.cell? ⟨g, n, none⟩ = some (.string X)) 29 (by kernel_rfl) ?_
            have HS : wr.drew.cell? ⟨x, 0, none⟩ = some (.slice (some ⟨g, 0, none⟩) m cap) ∧ wr.drew.cell? ⟨x, 1, none⟩ = some (.slice none 0 0) ∧ wr.drew.cell? ⟨g, n, none⟩ = some (.string X) := ⟨d0, d1, cs⟩
            refine ways_skip (i := 0) (.pointer (some ⟨x, 0, none⟩)) rfl (by kernel_rfl) (by kernel_rfl) (by kernel_rfl) (by kernel_rfl) (fun _ _ _ h => h) HS (by rfl) ?_ ?_
            · intro w9
              go_simp
            simp only [Act.put, List.setIfInBounds_toArray, List.set_cons_zero, List.set_cons_succ]
            refine ways_skip (i := 1) (.pointer (some ⟨x, 0, none⟩)) rfl (by kernel_rfl) (by kernel_rfl) (by kernel_rfl) (by kernel_rfl) (fun _ _ _ h => h) HS (by rfl) ?_ ?_
            · intro w9
              go_simp
            simp only [Act.put, List.setIfInBounds_toArray, List.set_cons_zero, List.set_cons_succ]
            refine ways_skip (i := 2) (.pointer (some ⟨x, 0, none⟩)) rfl (by kernel_rfl) (by kernel_rfl) (by kernel_rfl) (by kernel_rfl) (fun _ _ _ h => h) HS (by rfl) ?_ ?_
            · intro w9
              go_simp
            simp only [Act.put, List.setIfInBounds_toArray, List.set_cons_zero, List.set_cons_succ]
            refine ways_skip (i := 3) (.pointer (some ⟨x, 1, none⟩)) rfl (by kernel_rfl) (by kernel_rfl) (by kernel_rfl) (by kernel_rfl) (fun _ _ _ h => h) HS (by rfl) ?_ ?_
            · intro w9
              go_simp
            simp only [Act.put, List.setIfInBounds_toArray, List.set_cons_zero, List.set_cons_succ]
            refine ways_take (i := 4) (.slice none 0 0) rfl (by kernel_rfl) (by kernel_rfl) (by kernel_rfl) (by kernel_rfl) (fun _ _ _ h => h) HS (by rfl) ?_ ?_
            · rintro w9 ⟨s0, s1, s2⟩
              go_simp
            simp only [Act.put, List.setIfInBounds_toArray, List.set_cons_zero, List.set_cons_succ]
            refine ways_skip (i := 5) (.pointer (some ⟨x, 0, none⟩)) rfl (by kernel_rfl) (by kernel_rfl) (by kernel_rfl) (by kernel_rfl) (fun _ _ _ h => h) HS (by rfl) ?_ ?_
            · intro w9
              go_simp
            simp only [Act.put, List.setIfInBounds_toArray, List.set_cons_zero, List.set_cons_succ]
            refine ways_skip (i := 6) (.pointer (some ⟨x, 0, none⟩)) rfl (by kernel_rfl) (by kernel_rfl) (by kernel_rfl) (by kernel_rfl) (fun _ _ _ h => h) HS (by rfl) ?_ ?_
            · intro w9
              go_simp
            simp only [Act.put, List.setIfInBounds_toArray, List.set_cons_zero, List.set_cons_succ]
            refine ways_skip (i := 7) (.pointer (some ⟨x, 1, none⟩)) rfl (by kernel_rfl) (by kernel_rfl) (by kernel_rfl) (by kernel_rfl) (fun _ _ _ h => h) HS (by rfl) ?_ ?_
            · intro w9
              go_simp
            simp only [Act.put, List.setIfInBounds_toArray, List.set_cons_zero, List.set_cons_succ]
            refine ways_take (i := 8) (.slice none 0 0) rfl (by kernel_rfl) (by kernel_rfl) (by kernel_rfl) (by kernel_rfl) (fun _ _ _ h => h) HS (by rfl) ?_ ?_
            · rintro w9 ⟨s0, s1, s2⟩
              go_simp
            simp only [Act.put, List.setIfInBounds_toArray, List.set_cons_zero, List.set_cons_succ]
            refine ways_skip (i := 9) (.int .i64 0) rfl (by kernel_rfl) (by kernel_rfl) (by kernel_rfl) (by kernel_rfl) (fun _ _ _ h => h) HS (by rfl) ?_ ?_
            · intro w9
              go_simp
            simp only [Act.put, List.setIfInBounds_toArray, List.set_cons_zero, List.set_cons_succ]
            refine ways_skip (i := 10) (.pointer (some ⟨x, 0, none⟩)) rfl (by kernel_rfl) (by kernel_rfl) (by kernel_rfl) (by kernel_rfl) (fun _ _ _ h => h) HS (by rfl) ?_ ?_
            · intro w9
              go_simp
            simp only [Act.put, List.setIfInBounds_toArray, List.set_cons_zero, List.set_cons_succ]
            refine ways_skip (i := 11) (.pointer (some ⟨x, 0, none⟩)) rfl (by kernel_rfl) (by kernel_rfl) (by kernel_rfl) (by kernel_rfl) (fun _ _ _ h => h) HS (by rfl) ?_ ?_
            · intro w9
              go_simp
            simp only [Act.put, List.setIfInBounds_toArray, List.set_cons_zero, List.set_cons_succ]
            refine ways_skip (i := 12) (.pointer (some ⟨x, 1, none⟩)) rfl (by kernel_rfl) (by kernel_rfl) (by kernel_rfl) (by kernel_rfl) (fun _ _ _ h => h) HS (by rfl) ?_ ?_
            · intro w9
              go_simp
            simp only [Act.put, List.setIfInBounds_toArray, List.set_cons_zero, List.set_cons_succ]
            refine ways_take (i := 13) (.slice none 0 0) rfl (by kernel_rfl) (by kernel_rfl) (by kernel_rfl) (by kernel_rfl) (fun _ _ _ h => h) HS (by rfl) ?_ ?_
            · rintro w9 ⟨s0, s1, s2⟩
              go_simp
            simp only [Act.put, List.setIfInBounds_toArray, List.set_cons_zero, List.set_cons_succ]
            refine ways_skip (i := 14) (.int .i64 0) rfl (by kernel_rfl) (by kernel_rfl) (by kernel_rfl) (by kernel_rfl) (fun _ _ _ h => h) HS (by rfl) ?_ ?_
            · intro w9
              go_simp
            simp only [Act.put, List.setIfInBounds_toArray, List.set_cons_zero, List.set_cons_succ]
            refine ways_skip (i := 15) (.slice none 0 0) rfl (by kernel_rfl) (by kernel_rfl) (by kernel_rfl) (by kernel_rfl) (fun _ _ _ h => h) HS (by rfl) ?_ ?_
            · intro w9
              go_simp
            simp only [Act.put, List.setIfInBounds_toArray, List.set_cons_zero, List.set_cons_succ]
            refine ways_skip (i := 16) (.int .i64 (n : Int)) rfl (by kernel_rfl) (by kernel_rfl) (by kernel_rfl) (by kernel_rfl) (fun _ _ _ h => h) HS (by rfl) ?_ ?_
            · intro w9
              go_simp
            simp only [Act.put, List.setIfInBounds_toArray, List.set_cons_zero, List.set_cons_succ]
            refine ways_skip (i := 17) (.pointer (some ⟨x, 0, none⟩)) rfl (by kernel_rfl) (by kernel_rfl) (by kernel_rfl) (by kernel_rfl) (fun _ _ _ h => h) HS (by rfl) ?_ ?_
            · intro w9
              go_simp
            simp only [Act.put, List.setIfInBounds_toArray, List.set_cons_zero, List.set_cons_succ]
            refine ways_skip (i := 18) (.pointer (some ⟨x, 0, none⟩)) rfl (by kernel_rfl) (by kernel_rfl) (by kernel_rfl) (by kernel_rfl) (fun _ _ _ h => h) HS (by rfl) ?_ ?_
            · intro w9
              go_simp
            simp only [Act.put, List.setIfInBounds_toArray, List.set_cons_zero, List.set_cons_succ]
            refine ways_skip (i := 19) (.pointer (some ⟨x, 0, none⟩)) rfl (by kernel_rfl) (by kernel_rfl) (by kernel_rfl) (by kernel_rfl) (fun _ _ _ h => h) HS (by rfl) ?_ ?_
            · intro w9
              go_simp
            simp only [Act.put, List.setIfInBounds_toArray, List.set_cons_zero, List.set_cons_succ]
            refine ways_take (i := 20) (.slice (some ⟨g, 0, none⟩) m cap) rfl (by kernel_rfl) (by kernel_rfl) (by kernel_rfl) (by kernel_rfl) (fun _ _ _ h => h) HS (by rfl) ?_ ?_
            · rintro w9 ⟨s0, s1, s2⟩
              go_simp
            simp only [Act.put, List.setIfInBounds_toArray, List.set_cons_zero, List.set_cons_succ]
            refine ways_skip (i := 21) (.int .i64 (n : Int)) rfl (by kernel_rfl) (by kernel_rfl) (by kernel_rfl) (by kernel_rfl) (fun _ _ _ h => h) HS (by rfl) ?_ ?_
            · intro w9
              go_simp
            simp only [Act.put, List.setIfInBounds_toArray, List.set_cons_zero, List.set_cons_succ]
            refine ways_skip (i := 22) (.pointer (some ⟨g, n, none⟩)) rfl (by kernel_rfl) (by kernel_rfl) (by kernel_rfl) (by kernel_rfl) (fun _ _ _ h => h) HS (by rfl) ?_ ?_
            · intro w9
              go_simp
            simp only [Act.put, List.setIfInBounds_toArray, List.set_cons_zero, List.set_cons_succ]
            refine ways_take (i := 23) (.string X) rfl (by kernel_rfl) (by kernel_rfl) (by kernel_rfl) (by kernel_rfl) (fun _ _ _ h => h) HS (by rfl) ?_ ?_
            · rintro w9 ⟨s0, s1, s2⟩
              go_simp
            simp only [Act.put, List.setIfInBounds_toArray, List.set_cons_zero, List.set_cons_succ]
            refine ways_skip (i := 24) (.agg #[.int .i64 (n : Int), .string X]) rfl (by kernel_rfl) (by kernel_rfl) (by kernel_rfl) (by kernel_rfl) (fun _ _ _ h => h) HS (by rfl) ?_ ?_
            · intro w9
              go_simp
            simp only [Act.put, List.setIfInBounds_toArray, List.set_cons_zero, List.set_cons_succ]
            refine ways_step (i := 25) rfl (by kernel_rfl) (fun K hK => ?_)
            have HK := Lib.hid hK
            clear hK
            go_simp
            refine HK.out _ _ ?_ (fun _ => ⟨k0, k1, k2⟩)
            clear HK K
            refine ways_step (i := 26) rfl (by kernel_rfl) (fun K hK => ?_)
            have HK := Lib.hid hK
            clear hK
            refine step_append_run (by rfl) (.tmp 91) (.tmp 101) 58 (by rfl) _ _ _ (by rfl) (by rfl) hap ?_
            refine HK.out _ _ ?_ (fun _ => ⟨e0, e1, e2⟩)
            clear HK K
            simp only [Act.put, List.setIfInBounds_toArray, List.set_cons_zero, List.set_cons_succ]
            have HS2 : w2.cell? ⟨x, 0, none⟩ = some (.slice (some ⟨g, 0, none⟩) m cap) ∧ w2.cell? ⟨x, 1, none⟩ = some (.slice none 0 0) ∧ w2.cell? ⟨g, n, none⟩ = some (.string X) := ⟨e0, e1, e2⟩
            refine ways_skip (i := 27) (.pointer (some ⟨x, 0, none⟩)) rfl (by kernel_rfl) (by kernel_rfl) (by kernel_rfl) (by kernel_rfl) (fun _ _ _ h => h) HS2 (by rfl) ?_ ?_
            · intro w9
              go_simp
            simp only [Act.put, List.setIfInBounds_toArray, List.set_cons_zero, List.set_cons_succ]
            refine ways_skip (i := 28) (.pointer (some ⟨x, 1, none⟩)) rfl (by kernel_rfl) (by kernel_rfl) (by kernel_rfl) (by kernel_rfl) (fun _ _ _ h => h) HS2 (by rfl) ?_ ?_
            · intro w9
              go_simp
            simp only [Act.put, List.setIfInBounds_toArray, List.set_cons_zero, List.set_cons_succ]
            refine ways_step (i := 29) rfl (by kernel_rfl) (fun K hK => ?_)
            have HK := Lib.hid hK
            clear hK
            go_simp
            refine HK.out _ _ ?_ (fun h => absurd rfl h)
            clear HK K
            refine ways_done (by kernel_rfl) ?_
            go_wp2_with fail
            go_ret
            exact ⟨rfl, FIN.out⟩
          · have hqv := H1.out.caps
            go_wp2_with fail
            refine region_ways (fun w' => w'.cell? ⟨x, 0, none⟩ = some (.slice (some ⟨g, 0, none⟩) m cap) ∧ w'.cell? ⟨x, 1, none⟩ = some (.slice (some ⟨vb, vo, vp⟩) q vc) ∧ w'.cell? ⟨g, n, none⟩ = some (.string X)) 29 (by kernel_rfl) ?_
            have HS : wr.drew.cell? ⟨x, 0, none⟩ = some (.slice (some ⟨g, 0, none⟩) m cap) ∧ wr.drew.cell? ⟨x, 1, none⟩ = some (.slice (some ⟨vb, vo, vp⟩) q vc) ∧ wr.drew.cell? ⟨g, n, none⟩ = some (.string X) := ⟨d0, d1, cs⟩
            refine ways_skip (i := 0) (.pointer (some ⟨x, 0, none⟩)) rfl (by kernel_rfl) (by kernel_rfl) (by kernel_rfl) (by kernel_rfl) (fun _ _ _ h => h) HS (by rfl) ?_ ?_
            · intro w9
              go_simp
            simp only [Act.put, List.setIfInBounds_toArray, List.set_cons_zero, List.set_cons_succ]
            refine ways_skip (i := 1) (.pointer (some ⟨x, 0, none⟩)) rfl (by kernel_rfl) (by kernel_rfl) (by kernel_rfl) (by kernel_rfl) (fun _ _ _ h => h) HS (by rfl) ?_ ?_
            · intro w9
              go_simp
            simp only [Act.put, List.setIfInBounds_toArray, List.set_cons_zero, List.set_cons_succ]
            refine ways_skip (i := 2) (.pointer (some ⟨x, 0, none⟩)) rfl (by kernel_rfl) (by kernel_rfl) (by kernel_rfl) (by kernel_rfl) (fun _ _ _ h => h) HS (by rfl) ?_ ?_
            · intro w9
              go_simp
            simp only [Act.put, List.setIfInBounds_toArray, List.set_cons_zero, List.set_cons_succ]
            refine ways_skip (i := 3) (.pointer (some ⟨x, 1, none⟩)) rfl (by kernel_rfl) (by kernel_rfl) (by kernel_rfl) (by kernel_rfl) (fun _ _ _ h => h) HS (by rfl) ?_ ?_
            · intro w9
              go_simp
            simp only [Act.put, List.setIfInBounds_toArray, List.set_cons_zero, List.set_cons_succ]
            refine ways_take (i := 4) (.slice (some ⟨vb, vo, vp⟩) q vc) rfl (by kernel_rfl) (by kernel_rfl) (by kernel_rfl) (by kernel_rfl) (fun _ _ _ h => h) HS (by rfl) ?_ ?_
            · rintro w9 ⟨s0, s1, s2⟩
              go_simp
            simp only [Act.put, List.setIfInBounds_toArray, List.set_cons_zero, List.set_cons_succ]
            refine ways_skip (i := 5) (.pointer (some ⟨x, 0, none⟩)) rfl (by kernel_rfl) (by kernel_rfl) (by kernel_rfl) (by kernel_rfl) (fun _ _ _ h => h) HS (by rfl) ?_ ?_
            · intro w9
              go_simp
            simp only [Act.put, List.setIfInBounds_toArray, List.set_cons_zero, List.set_cons_succ]
            refine ways_skip (i := 6) (.pointer (some ⟨x, 0, none⟩)) rfl (by kernel_rfl) (by kernel_rfl) (by kernel_rfl) (by kernel_rfl) (fun _ _ _ h => h) HS (by rfl) ?_ ?_
            · intro w9
              go_simp
            simp only [Act.put, List.setIfInBounds_toArray, List.set_cons_zero, List.set_cons_succ]
            refine ways_skip (i := 7) (.pointer (some ⟨x, 1, none⟩)) rfl (by kernel_rfl) (by kernel_rfl) (by kernel_rfl) (by kernel_rfl) (fun _ _ _ h => h) HS (by rfl) ?_ ?_
            · intro w9
              go_simp
            simp only [Act.put, List.setIfInBounds_toArray, List.set_cons_zero, List.set_cons_succ]
            refine ways_take (i := 8) (.slice (some ⟨vb, vo, vp⟩) q vc) rfl (by kernel_rfl) (by kernel_rfl) (by kernel_rfl) (by kernel_rfl) (fun _ _ _ h => h) HS (by rfl) ?_ ?_
            · rintro w9 ⟨s0, s1, s2⟩
              go_simp
            simp only [Act.put, List.setIfInBounds_toArray, List.set_cons_zero, List.set_cons_succ]
            refine ways_skip (i := 9) (.int .i64 (q : Int)) rfl (by kernel_rfl) (by kernel_rfl) (by kernel_rfl) (by kernel_rfl) (fun _ _ _ h => h) HS (by rfl) ?_ ?_
            · intro w9
              go_simp
            simp only [Act.put, List.setIfInBounds_toArray, List.set_cons_zero, List.set_cons_succ]
            refine ways_skip (i := 10) (.pointer (some ⟨x, 0, none⟩)) rfl (by kernel_rfl) (by kernel_rfl) (by kernel_rfl) (by kernel_rfl) (fun _ _ _ h => h) HS (by rfl) ?_ ?_
            · intro w9
              go_simp
            simp only [Act.put, List.setIfInBounds_toArray, List.set_cons_zero, List.set_cons_succ]
            refine ways_skip (i := 11) (.pointer (some ⟨x, 0, none⟩)) rfl (by kernel_rfl) (by kernel_rfl) (by kernel_rfl) (by kernel_rfl) (fun _ _ _ h => h) HS (by rfl) ?_ ?_
            · intro w9
              go_simp
            simp only [Act.put, List.setIfInBounds_toArray, List.set_cons_zero, List.set_cons_succ]
            refine ways_skip (i := 12) (.pointer (some ⟨x, 1, none⟩)) rfl (by kernel_rfl) (by kernel_rfl) (by kernel_rfl) (by kernel_rfl) (fun _ _ _ h => h) HS (by rfl) ?_ ?_
            · intro w9
              go_simp
            simp only [Act.put, List.setIfInBounds_toArray, List.set_cons_zero, List.set_cons_succ]
            refine ways_take (i := 13) (.slice (some ⟨vb, vo, vp⟩) q vc) rfl (by kernel_rfl) (by kernel_rfl) (by kernel_rfl) (by kernel_rfl) (fun _ _ _ h => h) HS (by rfl) ?_ ?_
            · rintro w9 ⟨s0, s1, s2⟩
              go_simp
            simp only [Act.put, List.setIfInBounds_toArray, List.set_cons_zero, List.set_cons_succ]
            refine ways_skip (i := 14) (.int .i64 (q : Int)) rfl (by kernel_rfl) (by kernel_rfl) (by kernel_rfl) (by kernel_rfl) (fun _ _ _ h => h) HS (by rfl) ?_ ?_
            · intro w9
              go_simp
            simp only [Act.put, List.setIfInBounds_toArray, List.set_cons_zero, List.set_cons_succ]
            refine ways_skip (i := 15) (.slice (some ⟨vb, vo, vp⟩) q q) rfl (by kernel_rfl) (by kernel_rfl) (by kernel_rfl) (by kernel_rfl) (fun _ _ _ h => h) HS (by rfl) ?_ ?_
            · intro w9
              go_simp
            simp only [Act.put, List.setIfInBounds_toArray, List.set_cons_zero, List.set_cons_succ]
            refine ways_skip (i := 16) (.int .i64 (n : Int)) rfl (by kernel_rfl) (by kernel_rfl) (by kernel_rfl) (by kernel_rfl) (fun _ _ _ h => h) HS (by rfl) ?_ ?_
            · intro w9
              go_simp
            simp only [Act.put, List.setIfInBounds_toArray, List.set_cons_zero, List.set_cons_succ]
            refine ways_skip (i := 17) (.pointer (some ⟨x, 0, none⟩)) rfl (by kernel_rfl) (by kernel_rfl) (by kernel_rfl) (by kernel_rfl) (fun _ _ _ h => h) HS (by rfl) ?_ ?_
            · intro w9
              go_simp
            simp only [Act.put, List.setIfInBounds_toArray, List.set_cons_zero, List.set_cons_succ]
            refine ways_skip (i := 18) (.pointer (some ⟨x, 0, none⟩)) rfl (by kernel_rfl) (by kernel_rfl) (by kernel_rfl) (by kernel_rfl) (fun _ _ _ h => h) HS (by rfl) ?_ ?_
            · intro w9
              go_simp
            simp only [Act.put, List.setIfInBounds_toArray, List.set_cons_zero, List.set_cons_succ]
            refine ways_skip (i := 19) (.pointer (some ⟨x, 0, none⟩)) rfl (by kernel_rfl) (by kernel_rfl) (by kernel_rfl) (by kernel_rfl) (fun _ _ _ h => h) HS (by rfl) ?_ ?_
            · intro w9
              go_simp
            simp only [Act.put, List.setIfInBounds_toArray, List.set_cons_zero, List.set_cons_succ]
            refine ways_take (i := 20) (.slice (some ⟨g, 0, none⟩) m cap) rfl (by kernel_rfl) (by kernel_rfl) (by kernel_rfl) (by kernel_rfl) (fun _ _ _ h => h) HS (by rfl) ?_ ?_
            · rintro w9 ⟨s0, s1, s2⟩
              go_simp
            simp only [Act.put, List.setIfInBounds_toArray, List.set_cons_zero, List.set_cons_succ]
            refine ways_skip (i := 21) (.int .i64 (n : Int)) rfl (by kernel_rfl) (by kernel_rfl) (by kernel_rfl) (by kernel_rfl) (fun _ _ _ h => h) HS (by rfl) ?_ ?_
            · intro w9
              go_simp
            simp only [Act.put, List.setIfInBounds_toArray, List.set_cons_zero, List.set_cons_succ]
            refine ways_skip (i := 22) (.pointer (some ⟨g, n, none⟩)) rfl (by kernel_rfl) (by kernel_rfl) (by kernel_rfl) (by kernel_rfl) (fun _ _ _ h => h) HS (by rfl) ?_ ?_
            · intro w9
              go_simp
            simp only [Act.put, List.setIfInBounds_toArray, List.set_cons_zero, List.set_cons_succ]
            refine ways_take (i := 23) (.string X) rfl (by kernel_rfl) (by kernel_rfl) (by kernel_rfl) (by kernel_rfl) (fun _ _ _ h => h) HS (by rfl) ?_ ?_
            · rintro w9 ⟨s0, s1, s2⟩
              go_simp
            simp only [Act.put, List.setIfInBounds_toArray, List.set_cons_zero, List.set_cons_succ]
            refine ways_skip (i := 24) (.agg #[.int .i64 (n : Int), .string X]) rfl (by kernel_rfl) (by kernel_rfl) (by kernel_rfl) (by kernel_rfl) (fun _ _ _ h => h) HS (by rfl) ?_ ?_
            · intro w9
              go_simp
            simp only [Act.put, List.setIfInBounds_toArray, List.set_cons_zero, List.set_cons_succ]
            refine ways_step (i := 25) rfl (by kernel_rfl) (fun K hK => ?_)
            have HK := Lib.hid hK
            clear hK
            go_simp
            refine HK.out _ _ ?_ (fun _ => ⟨k0, k1, k2⟩)
            clear HK K
            refine ways_step (i := 26) rfl (by kernel_rfl) (fun K hK => ?_)
            have HK := Lib.hid hK
            clear hK
            refine step_append_run (by rfl) (.tmp 91) (.tmp 101) 58 (by rfl) _ _ _ (by rfl) (by rfl) hap ?_
            refine HK.out _ _ ?_ (fun _ => ⟨e0, e1, e2⟩)
            clear HK K
            simp only [Act.put, List.setIfInBounds_toArray, List.set_cons_zero, List.set_cons_succ]
            have HS2 : w2.cell? ⟨x, 0, none⟩ = some (.slice (some ⟨g, 0, none⟩) m cap) ∧ w2.cell? ⟨x, 1, none⟩ = some (.slice (some ⟨vb, vo, vp⟩) q vc) ∧ w2.cell? ⟨g, n, none⟩ = some (.string X) := ⟨e0, e1, e2⟩
            refine ways_skip (i := 27) (.pointer (some ⟨x, 0, none⟩)) rfl (by kernel_rfl) (by kernel_rfl) (by kernel_rfl) (by kernel_rfl) (fun _ _ _ h => h) HS2 (by rfl) ?_ ?_
            · intro w9
              go_simp
            simp only [Act.put, List.setIfInBounds_toArray, List.set_cons_zero, List.set_cons_succ]
            refine ways_skip (i := 28) (.pointer (some ⟨x, 1, none⟩)) rfl (by kernel_rfl) (by kernel_rfl) (by kernel_rfl) (by kernel_rfl) (fun _ _ _ h => h) HS2 (by rfl) ?_ ?_
            · intro w9
              go_simp
            simp only [Act.put, List.setIfInBounds_toArray, List.set_cons_zero, List.set_cons_succ]
            refine ways_step (i := 29) rfl (by kernel_rfl) (fun K hK => ?_)
            have HK := Lib.hid hK
            clear hK
            go_simp
            refine HK.out _ _ ?_ (fun h => absurd rfl h)
            clear HK K
            refine ways_done (by kernel_rfl) ?_
            go_wp2_with fail
            go_ret
            exact ⟨rfl, FIN.out⟩
        · obtain ⟨cs, fs⟩ := H1.out.sec2 hm'.out n hn
          have FINeq : ({ st1 with S := st1.S.set n s.data.toList } : DkS) = st.wrote n s.data.toList := by rw [WM.out (by rw [← hL1'.out]; exact hall.out), ← hS1'.out, ← hst1'.out]
          have FIN : Hid (RkPost w x (st.wrote n s.data.toList) F (wr.setCell ⟨g, n, none⟩ (.string s))) := Lib.hid (by
            rw [← FINeq]
            exact RkPost.of (H1.out.setSec2 hm'.out n s hs) (HF.out.setCell _ _ (.inl (hFs.out g (.inr (.inl rfl))))) (fun k hk => .inl (hFs.out k hk)))
          clear FINeq
          go_wp2_with fail
          go_ret
          exact ⟨rfl, FIN.out⟩
end Go.Proofs.Yteaiiiikehimgaa
