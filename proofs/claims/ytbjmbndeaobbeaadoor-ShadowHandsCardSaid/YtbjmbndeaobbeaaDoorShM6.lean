/-
  Package shadow: Commit.
-/
import Derived.Test.YtbjmbndeaobbeaaDoorShM5
namespace Go.Proofs.YtbjmbndeaobbeaaDoor
open Go.RowKit
set_option linter.unusedVariables false
set_option linter.unusedSimpArgs false
theorem Sto.disk {w : World} {s d : Nat} {st : ShS} {F : Nat → Prop} (h : Sto w s d st F) : w.cell? ⟨s, 0, none⟩ = some (.pointer (some ⟨d, 0, none⟩)) := by
  obtain ⟨f, g, hi, he⟩ := h
  exact hi.cells.1
theorem Sto.cells {w : World} {s d : Nat} {st : ShS} {F : Nat → Prop} (h : Sto w s d st F) : ∃ f g, w.cell? ⟨s, 0, none⟩ = some (.pointer (some ⟨d, 0, none⟩)) ∧ w.cell? ⟨s, 1, none⟩ = some (.int .i64 st.h.gen) ∧ w.cell? ⟨s, 2, none⟩ = some (.int .i64 st.h.root) ∧ w.cell? ⟨s, 3, none⟩ = some (.string st.h.used) ∧ w.cell? ⟨s, 4, none⟩ = some (.map (some f)) ∧ w.cell? ⟨s, 5, none⟩ = some (.map (some g)) ∧ w.cell? ⟨s, 6, none⟩ = some (.bool st.up) ∧ ∀ k, w.frozen? ⟨s, k, none⟩ = false := by
  obtain ⟨f, g, hi, he⟩ := h
  obtain ⟨c0, c1, c2, c3, c4, c5, c6⟩ := hi.cells
  exact ⟨f, g, c0, c1, c2, c3, c4, c5, c6, hi.free⟩
theorem DSPost.next {w wc w2 : World} {d s : Nat} {dk1 dk2 : DkS} {st1 st2 : ShS} {FD FS : Nat → Prop} (hp : DSPost w d s FD FS dk1 st1 wc) (h : ∀ FD', DS wc d s dk1 st1 FD' FS → DSPost wc d s FD' FS dk2 st2 w2) : DSPost w d s FD FS dk2 st2 w2 := by
  obtain ⟨FD', h1, f1, n1⟩ := hp
  exact DSPost.trans (dk1 := dk1) (st1 := st1) f1.size f1 n1 (h FD' h1)
theorem StoIn.setHead {w : World} {s d f g : Nat} {st : ShS} (h : StoIn w s d f g st) (H : HdS) (hok : HdOk H) : StoIn (((w.setCell ⟨s, 1, none⟩ (.int .i64 H.gen)).setCell ⟨s, 2, none⟩ (.int .i64 H.root)).setCell ⟨s, 3, none⟩ (.string H.used)) s d f g { st with h := H } :=
  { cell := by
      rw [heap_setCell_same _ _ 3 _ _ _ (heap_setCell_same _ _ 2 _ _ _ (heap_setCell_same _ _ 1 _ _ _ h.cell))]
      rfl
    fr := h.fr.kept (by rw [Below.heap_setCell _ _ _ _ (show f ≠ (⟨s, 3, none⟩ : Addr).block from Ne.symm h.sf), Below.heap_setCell _ _ _ _ (show f ≠ (⟨s, 2, none⟩ : Addr).block from Ne.symm h.sf), Below.heap_setCell _ _ _ _ (show f ≠ (⟨s, 1, none⟩ : Addr).block from Ne.symm h.sf)])
    gv := h.gv.kept (by rw [Below.heap_setCell _ _ _ _ (show g ≠ (⟨s, 3, none⟩ : Addr).block from Ne.symm h.sg), Below.heap_setCell _ _ _ _ (show g ≠ (⟨s, 2, none⟩ : Addr).block from Ne.symm h.sg), Below.heap_setCell _ _ _ _ (show g ≠ (⟨s, 1, none⟩ : Addr).block from Ne.symm h.sg)])
    sf := h.sf
    sg := h.sg
    fg := h.fg
    ok := hok
    fb := h.fb
    gb := h.gb }
theorem Sto.setHead {w : World} {s d : Nat} {st : ShS} {F : Nat → Prop} (h : Sto w s d st F) (H : HdS) (hok : HdOk H) : Sto (((w.setCell ⟨s, 1, none⟩ (.int .i64 H.gen)).setCell ⟨s, 2, none⟩ (.int .i64 H.root)).setCell ⟨s, 3, none⟩ (.string H.used)) s d { st with h := H } F ∧ Frm F w (((w.setCell ⟨s, 1, none⟩ (.int .i64 H.gen)).setCell ⟨s, 2, none⟩ (.int .i64 H.root)).setCell ⟨s, 3, none⟩ (.string H.used)) := by
  obtain ⟨f, g, hi, he⟩ := h
  have hs : F s := (he s).2 (.inl rfl)
  exact ⟨⟨f, g, hi.setHead H hok, he⟩, (((Frm.refl F w).setCell _ _ (.inl hs)).setCell _ _ (.inl hs)).setCell _ _ (.inl hs)⟩
theorem hasB_in80 {b : ByteArray} (h : b.size = 80) {n : Int} (hn : hasB b n = true) : 0 ≤ n ∧ n < 640 := by
  by_cases hr : 0 ≤ n ∧ n < 8 * (b.size : Int)
  · omega
  · rw [hasB_out b n hr] at hn; cases hn
theorem Sto.okh {w : World} {s d : Nat} {st : ShS} {F : Nat → Prop} (h : Sto w s d st F) : HdOk st.h := by
  obtain ⟨f, g, hi, he⟩ := h
  exact hi.ok
theorem may_rng {w : World} {s d : Nat} {st : ShS} {F : Nat → Prop} (h : Sto w s d st F) {n : Int} (hm : mayB st n = true) : 0 ≤ n ∧ n < 640 := by
  obtain ⟨f, g, hi, he⟩ := h
  unfold mayB at hm
  simp only [Bool.or_eq_true, decide_eq_true_eq, Bool.and_eq_true] at hm
  rcases hm with (rfl | hm) | hm
  · omega
  · have := hi.fb n hm; omega
  · exact hasB_in80 hi.ok.u hm.1
theorem nextH_ok {st : ShS} (h : HdOk st.h) {root : Int} (hr : 0 ≤ root ∧ root < 640) (hg : st.h.gen ≤ 281474976710654) : HdOk (nextH st root) :=
  ⟨by have := h.g0; show 0 ≤ st.h.gen + 1; omega, by show st.h.gen + 1 ≤ _; omega, hr.1, by show root ≤ _; omega, by show (nextU st).size = 80; unfold nextU; rw [withAll_size, withAll_size]; exact h.u⟩
def ShS.commit (st : ShS) (dk : DkS) (root : Int) : DkS × ShS × Int :=
  if st.up = false then (dk, st, 5) else if mayB st root = false then (dk, st, 1) else if st.h.gen = 281474976710655 then (dk, st, 6)
  else if dk.sync.2 ≠ 0 then (dk.sync.1, st.told dk.sync.2, dk.sync.2)
  else if (wrHead dk.sync.1 (nextH st root)).2 ≠ 0 then ((wrHead dk.sync.1 (nextH st root)).1, st.told (wrHead dk.sync.1 (nextH st root)).2, (wrHead dk.sync.1 (nextH st root)).2)
  else ((wrHead dk.sync.1 (nextH st root)).1, ⟨nextH st root, [], [], st.up⟩, 0)
theorem told_0 (st : ShS) : st.told 0 = st := by unfold ShS.told; rw [if_neg (by decide)]
set_option maxHeartbeats 1600000 in
set_option maxRecDepth 20000 in
theorem commit_down (w : World) (d s : Nat) (dk : DkS) (st : ShS) (FD FS : Nat → Prop) (h : DS w d s dk st FD FS) (root : Int) (hu : st.up = false) :
    Calls Tryd.prog 15 #[.pointer (some ⟨s, 0, none⟩), .int .i64 root] w fun e w' => e = .returned (.int .i64 5) ∧ DSPost w d s FD FS dk st w' := by
  have H := Lib.hid h
  obtain ⟨f, g, c0, c1, c2, c3, c4, c5, c6, hf⟩ := h.sto.cells
  rw [hu] at c6
  clear h hf
  go_enter Tryd.func15, Tryd.ntmps15
  go_wp2_with fail
  go_ret
  exact ⟨rfl, DSPost.same H.out⟩
set_option maxHeartbeats 1600000 in
set_option maxRecDepth 20000 in
theorem commit_may (w : World) (d s : Nat) (dk : DkS) (st : ShS) (FD FS : Nat → Prop) (h : DS w d s dk st FD FS) (root : Int) (hu : st.up = true) (hr : root < 9223372036854775808) (hm : mayB st root = false) :
    Calls Tryd.prog 15 #[.pointer (some ⟨s, 0, none⟩), .int .i64 root] w fun e w' => e = .returned (.int .i64 1) ∧ DSPost w d s FD FS dk st w' := by
  have H := Lib.hid h
  have MY := Lib.hid (may_is w s d st FS h.sto root hr false hm)
  obtain ⟨f, g, c0, c1, c2, c3, c4, c5, c6, hf⟩ := h.sto.cells
  rw [hu] at c6
  clear h hf
  go_enter Tryd.func15, Tryd.ntmps15
  go_wp2_with fail
  refine MY.out.mono ?_
  rintro e w1 ⟨rfl, b1⟩
  have P1 := Lib.hid (DSPost.below H.out b1)
  clear b1
  go_wp2_with fail
  go_ret
  exact ⟨rfl, P1.out⟩
set_option maxHeartbeats 1600000 in
set_option maxRecDepth 20000 in
theorem commit_last (w : World) (d s : Nat) (dk : DkS) (st : ShS) (FD FS : Nat → Prop) (h : DS w d s dk st FD FS) (root : Int) (hu : st.up = true) (hr : root < 9223372036854775808) (hm : mayB st root = true) (hg : st.h.gen = 281474976710655) :
    Calls Tryd.prog 15 #[.pointer (some ⟨s, 0, none⟩), .int .i64 root] w fun e w' => e = .returned (.int .i64 6) ∧ DSPost w d s FD FS dk st w' := by
  have H := Lib.hid h
  have MY := Lib.hid (may_is w s d st FS h.sto root hr true hm)
  have CE := Lib.hid (fun w' (hb : Below w.heap.size w w') => (h.sto.below hb).cells)
  obtain ⟨f, g, c0, c1, c2, c3, c4, c5, c6, hf⟩ := h.sto.cells
  rw [hu] at c6
  clear h hf
  go_enter Tryd.func15, Tryd.ntmps15
  go_wp2_with fail
  refine MY.out.mono ?_
  rintro e w1 ⟨rfl, b1⟩
  have P1 := Lib.hid (DSPost.below H.out b1)
  obtain ⟨f1, g1, x0, x1, x2, x3, x4, x5, x6, xf⟩ := CE.out w1 b1
  rw [hg] at x1
  clear b1 xf c0 c1 c2 c3 c4 c5 c6
  go_wp2_with fail
  go_ret
  exact ⟨rfl, P1.out⟩
set_option maxHeartbeats 6400000 in
set_option maxRecDepth 20000 in
theorem commit_sync (w : World) (d s : Nat) (dk : DkS) (st : ShS) (FD FS : Nat → Prop) (h : DS w d s dk st FD FS) (root : Int) (hu : st.up = true) (hr : root < 9223372036854775808) (hm : mayB st root = true) (hg : ¬ st.h.gen = 281474976710655) (hs : dk.sync.2 ≠ 0) :
    Calls Tryd.prog 15 #[.pointer (some ⟨s, 0, none⟩), .int .i64 root] w fun e w' => e = .returned (.int .i64 dk.sync.2) ∧ DSPost w d s FD FS dk.sync.1 (st.told dk.sync.2) w' := by
  have MY := Lib.hid (may_is w s d st FS h.sto root hr true hm)
  have CE := Lib.hid (fun w' (hb : Below w.heap.size w w') => (h.sto.below hb).cells)
  have HB := Lib.hid (fun w' (hb : Below w.heap.size w w') => h.below hb)
  have hrng := may_rng h.sto hm
  have hok0 := h.sto.okh
  have hgl : st.h.gen ≤ 281474976710654 := by have := hok0.g1; omega
  obtain ⟨f, g, c0, c1, c2, c3, c4, c5, c6, hf⟩ := h.sto.cells
  rw [hu] at c6
  have hgb : (st.h.gen == 281474976710655) = false := by simpa using hg
  have H := Lib.hid h
  obtain ⟨q, hq⟩ : ∃ q, dk.sync.2 = q := ⟨_, rfl⟩
  have SYN := Lib.hid (fun w' FD' (h' : Dk w' d dk FD') => sync_any w' d dk FD' h')
  rw [hq] at SYN hs ⊢
  have hq1 : (q == 0) = false := by simpa using hs
  have hq2 : (q != 0) = true := by simpa using hs
  clear h hf hg hm hr hrng hok0 hgl hq hs
  go_enter Tryd.func15, Tryd.ntmps15
  go_wp2_with fail
  refine MY.out.mono ?_
  rintro e w1 ⟨rfl, b1⟩
  have D1 := Lib.hid (HB.out w1 b1)
  have B1S := Lib.hid b1.size
  have B1F := Lib.hid (Frm.of_below (F := fun k => FD k ∨ FS k) b1)
  obtain ⟨f1, g1, x0, x1, x2, x3, x4, x5, x6, xf⟩ := CE.out w1 b1
  clear b1 xf c0 c1 c2 c3 c4 c5 c6 CE HB MY H
  go_wp2_with fail
  refine (SYN.out w1 FD D1.out.dk).mono ?_
  rintro e w2 ⟨rfl, hp⟩
  have PP := DSPost.disk D1.out hp
  obtain ⟨FD2, D2', f2, n2⟩ := PP
  have P2 : Hid (DSPost w d s FD FS dk.sync.1 st w2) := Lib.hid (by
    exact DSPost.trans (dk1 := dk) (st1 := st) B1S.out B1F.out (fun k hk => .inl hk) ⟨FD2, D2', f2, n2⟩)
  have D2 := Lib.hid D2'
  clear hp D2' f2 n2 x0 x1 x2 x3 x4 x5 x6 D1 B1S B1F
  go_wp2_with fail
  refine (told_is w2 s d st FS D2.out.sto q).mono ?_
  rintro e w3 ⟨rfl, hs3, hf3⟩
  have P3 : Hid (DSPost w d s FD FS dk.sync.1 (st.told q) w3) := Lib.hid (P2.out.next (fun FD' h' => DSPost.store h' hf3 hs3))
  clear hs3 hf3 P2 D2
  go_wp2_with fail
  go_ret
  exact ⟨rfl, P3.out⟩
set_option maxHeartbeats 6400000 in
set_option maxRecDepth 20000 in
theorem commit_on (w : World) (d s : Nat) (dk : DkS) (st : ShS) (FD FS : Nat → Prop) (h : DS w d s dk st FD FS) (root : Int) (hu : st.up = true) (hr : root < 9223372036854775808) (hm : mayB st root = true) (hg : ¬ st.h.gen = 281474976710655) (hs : dk.sync.2 = 0) :
    Calls Tryd.prog 15 #[.pointer (some ⟨s, 0, none⟩), .int .i64 root] w fun e w' => e = .returned (.int .i64 (wrHead dk.sync.1 (nextH st root)).2) ∧ DSPost w d s FD FS (wrHead dk.sync.1 (nextH st root)).1 (if (wrHead dk.sync.1 (nextH st root)).2 = 0 then ⟨nextH st root, [], [], st.up⟩ else st.told (wrHead dk.sync.1 (nextH st root)).2) w' := by
  have MY := Lib.hid (may_is w s d st FS h.sto root hr true hm)
  have CE := Lib.hid (fun w' (hb : Below w.heap.size w w') => (h.sto.below hb).cells)
  have HB := Lib.hid (fun w' (hb : Below w.heap.size w w') => h.below hb)
  have hrng := may_rng h.sto hm
  have hok0 := h.sto.okh
  have hgl : st.h.gen ≤ 281474976710654 := by have := hok0.g1; omega
  obtain ⟨f, g, c0, c1, c2, c3, c4, c5, c6, hf⟩ := h.sto.cells
  rw [hu] at c6
  have hgb : (st.h.gen == 281474976710655) = false := by simpa using hg
  have H := Lib.hid h
  have hokN := nextH_ok hok0 hrng hgl
  have SYN := Lib.hid (fun w' FD' (h' : Dk w' d dk FD') => sync_any w' d dk FD' h')
  rw [hs] at SYN
  obtain ⟨dk1, hdk1⟩ : ∃ dk1, dk.sync.1 = dk1 := ⟨_, rfl⟩
  rw [hdk1] at SYN ⊢
  have NXT := Lib.hid (fun w' (h' : Sto w' s d st FS) => next_is w' s d st FS h' root hgl)
  obtain ⟨HN, hHN⟩ : ∃ H, nextH st root = H := ⟨_, rfl⟩
  rw [hHN] at NXT hokN ⊢
  have WRH := Lib.hid (fun w' FD' (h' : Dk w' d dk1 FD') => writeHead_is w' d dk1 FD' h' HN hokN.g0 (by have := hokN.g1; omega) hokN.r0 (by have := hokN.r1; omega) (by have := hokN.u; omega))
  obtain ⟨⟨dk2, q⟩, hq⟩ : ∃ r, wrHead dk1 HN = r := ⟨_, rfl⟩
  rw [hq] at WRH ⊢
  dsimp only at WRH ⊢
  have HOK := Lib.hid hokN
  obtain ⟨stR, hstR⟩ : ∃ stR, (if q = 0 then (⟨HN, [], [], st.up⟩ : ShS) else st.told q) = stR := ⟨_, rfl⟩
  rw [hstR]
  have HSR := Lib.hid hstR
  unfold hdV at NXT WRH
  clear h hf hg hm hr hrng hok0 hgl hs hHN hq hstR hokN
  go_enter Tryd.func15, Tryd.ntmps15
  go_wp2_with fail
  refine MY.out.mono ?_
  rintro e w1 ⟨rfl, b1⟩
  have D1 := Lib.hid (HB.out w1 b1)
  have B1S := Lib.hid b1.size
  have B1F := Lib.hid (Frm.of_below (F := fun k => FD k ∨ FS k) b1)
  obtain ⟨f1, g1, x0, x1, x2, x3, x4, x5, x6, xf⟩ := CE.out w1 b1
  clear b1 xf c0 c1 c2 c3 c4 c5 c6 CE HB MY H
  go_wp2_with fail
  refine (SYN.out w1 FD D1.out.dk).mono ?_
  rintro e w2 ⟨rfl, hp⟩
  have PP := DSPost.disk D1.out hp
  obtain ⟨FD2, D2', f2, n2⟩ := PP
  have P2 : Hid (DSPost w d s FD FS dk1 st w2) := Lib.hid (by
    exact DSPost.trans (dk1 := dk) (st1 := st) B1S.out B1F.out (fun k hk => .inl hk) ⟨FD2, D2', f2, n2⟩)
  have D2 := Lib.hid D2'
  clear hp D2' f2 n2 x0 x1 x2 x3 x4 x5 x6 D1 B1S B1F
  go_wp2_with fail
  refine (told_is w2 s d st FS D2.out.sto 0).mono ?_
  rintro e w3 ⟨rfl, hs3, hf3⟩
  rw [told_0] at hs3
  have P3 : Hid (DSPost w d s FD FS dk1 st w3) := Lib.hid (P2.out.next (fun FD' h' => DSPost.store h' hf3 hs3))
  clear hs3 hf3 P2 D2
  go_wp2_with fail
  obtain ⟨FD3, hD3, hF3, hN3⟩ := P3.out
  refine (NXT.out w3 hD3.sto).mono ?_
  rintro e w4 ⟨rfl, b4⟩
  have P4 : Hid (DSPost w d s FD FS dk1 st w4) := Lib.hid (P3.out.next (fun FD' h' => DSPost.below h' b4))
  clear hD3 hF3 hN3 b4 P3 NXT
  go_upto_region 11 with fail
  obtain ⟨w5, hw5⟩ : ∃ w5, w4.alloc (.cells #[.int .i64 HN.gen, .int .i64 HN.root, .string HN.used] 54) = w5 := ⟨_, rfl⟩
  rw [hw5]
  have b5 : Below w4.heap.size w4 w5 := by rw [← hw5]; exact below_made _ _
  have Y5 := Lib.hid (show w5.heap[w4.heap.size]? = some (.cells #[.int .i64 HN.gen, .int .i64 HN.root, .string HN.used] 54) from by rw [← hw5]; exact heap_alloc_new _ _)
  have P5 : Hid (DSPost w d s FD FS dk1 st w5) := Lib.hid (P4.out.next (fun FD' h' => DSPost.below h' b5))
  obtain ⟨FD5, hD5, hF5, hN5⟩ := P4.out
  have hny : ¬ (FD5 w4.heap.size ∨ FS w4.heap.size) := fun hx => by
    rcases hx with hx | hx
    · exact Nat.lt_irrefl _ (hD5.dk.lt _ hx)
    · exact Nat.lt_irrefl _ (hD5.sto.lt _ hx)
  have D5 := Lib.hid (hD5.below b5)
  have P5' : Hid (∀ dk' st' w', DSPost w5 d s FD5 FS dk' st' w' → DSPost w d s FD FS dk' st' w') := Lib.hid (fun dk' st' w' hp => DSPost.trans (dk1 := dk1) (st1 := st) (Nat.le_trans hF5.size b5.size) (hF5.trans (Frm.of_below (F := fun k => FD k ∨ FS k) b5) (fun i hi => .inl hi)) hN5 hp)
  clear hD5 hF5 hN5 b5 hw5 P4 P5
  have hly : w4.heap.size < w5.heap.size := (Array.getElem?_eq_some_iff.1 Y5.out).1
  have c50 := D5.out.sto.disk
  refine wp_region_held_drew (S := fun w' => Frm (fun k => FD5 k ∨ FS k) w5 w' ∧ w'.cell? ⟨s, 0, none⟩ = some (.pointer (some ⟨d, 0, none⟩))) (by kernel_rfl) ⟨(Frm.refl (fun k => FD5 k ∨ FS k) w5).drew, c50⟩ (fun hS => ?_)
  refine held_take (i := 0) 39 (v := ?vc0x1) rfl rfl (by kernel_rfl) (by kernel_rfl) (by kernel_rfl) (fun _ _ _ h => h) hS (by rfl) ?hc0x1 ?rc0x1
  case hc0x1 =>
    intro w9 s9
    clear s9
    go_simp
    try (with_reducible rfl)
  simp only [List.setIfInBounds_toArray, List.set_cons_zero, List.set_cons_succ]
  refine held_take (i := 1) 40 (v := ?vc1x2) rfl rfl (by kernel_rfl) (by kernel_rfl) (by kernel_rfl) (fun _ _ _ h => h) hS (by rfl) ?hc1x2 ?rc1x2
  case hc1x2 =>
    intro w9 s9
    clear s9
    go_simp
    try (with_reducible rfl)
  simp only [List.setIfInBounds_toArray, List.set_cons_zero, List.set_cons_succ]
  refine held_take (i := 2) 41 (v := ?vc2x3) rfl rfl (by kernel_rfl) (by kernel_rfl) (by kernel_rfl) (fun _ _ _ h => h) hS (by rfl) ?hc2x3 ?rc2x3
  case hc2x3 =>
    intro w9 s9
    clear s9
    go_simp
    try (with_reducible rfl)
  simp only [List.setIfInBounds_toArray, List.set_cons_zero, List.set_cons_succ]
  refine held_take (i := 3) 42 (v := ?vc3x4) rfl rfl (by kernel_rfl) (by kernel_rfl) (by kernel_rfl) (fun _ _ _ h => h) hS (by rfl) ?hc3x4 ?rc3x4
  case hc3x4 =>
    intro w9 s9
    clear s9
    go_simp
    try (with_reducible rfl)
  simp only [List.setIfInBounds_toArray, List.set_cons_zero, List.set_cons_succ]
  refine held_take (i := 4) 43 (v := ?vc4x5) rfl rfl (by kernel_rfl) (by kernel_rfl) (by kernel_rfl) (fun _ _ _ h => h) hS (by rfl) ?hc4x5 ?rc4x5
  case hc4x5 =>
    intro w9 s9
    have c := s9.2
    clear s9
    go_simp
    try (with_reducible rfl)
  simp only [List.setIfInBounds_toArray, List.set_cons_zero, List.set_cons_succ]
  refine held_take (i := 5) 44 (v := ?vc5x6) rfl rfl (by kernel_rfl) (by kernel_rfl) (by kernel_rfl) (fun _ _ _ h => h) hS (by rfl) ?hc5x6 ?rc5x6
  case hc5x6 =>
    intro w9 s9
    have X9 := (s9.1.block w4.heap.size hly hny).trans Y5.out
    have c0 : w9.cell? ⟨w4.heap.size, 0, none⟩ = some (.int .i64 HN.gen) := by rw [Go.Joins.cell_of_block X9]; rfl
    have c1 : w9.cell? ⟨w4.heap.size, 1, none⟩ = some (.int .i64 HN.root) := by rw [Go.Joins.cell_of_block X9]; rfl
    have c2 : w9.cell? ⟨w4.heap.size, 2, none⟩ = some (.string HN.used) := by rw [Go.Joins.cell_of_block X9]; rfl
    clear s9
    go_simp
    try (with_reducible rfl)
  simp only [List.setIfInBounds_toArray, List.set_cons_zero, List.set_cons_succ]
  refine held_step (i := 6) rfl (by kernel_rfl) (fun K hK => ?_)
  have HK := Lib.hid hK
  clear hK
  go_simp
  go_wp2_with fail
  refine (WRH.out _ FD5 (D5.out.dk.below (Below.refl w5.heap.size w5).drew)).mono ?_
  rintro e v6 ⟨rfl, hp⟩
  obtain ⟨FD6, hD6, hF6d, hN6⟩ : DSPost w5 d s FD5 FS dk2 st v6 := DSPost.trans (w1 := w5.drew) (dk1 := dk1) (st1 := st) (Nat.le_refl _) (Frm.of_below (Below.refl w5.heap.size w5).drew) (fun k hk => .inl hk) (DSPost.disk (D5.out.below (Below.refl w5.heap.size w5).drew) hp)
  have hF6 : Frm (fun k => FD5 k ∨ FS k) w5.drew v6 := ⟨hF6d.os, hF6d.tape, hF6d.output, hF6d.size, hF6d.block⟩
  clear hp
  refine HK.out _ _ ?_ ?_
  · exact ⟨hS.1.trans hF6 (fun i hi => .inl hi), hD6.sto.disk⟩
  clear HK K
  try simp only [Act.put, List.setIfInBounds_toArray, List.set_cons_zero, List.set_cons_succ]
  have hS9 := And.intro (hS.1.trans hF6 (fun i hi => .inl hi)) hD6.sto.disk
  clear hS
  have hS := hS9
  clear hS9
  have D6 := Lib.hid hD6
  have P6 : Hid (DSPost w5 d s FD5 FS dk2 st v6) := Lib.hid ⟨FD6, hD6, hF6d, hN6⟩
  clear hD6 hF6 hF6d hN6
  refine held_step (i := 7) rfl (by kernel_rfl) (fun K hK => ?_)
  have HK := Lib.hid hK
  clear hK
  go_simp
  go_wp2_with fail
  refine (told_is _ s d st FS D6.out.sto q).mono ?_
  rintro e v7 ⟨rfl, hs7, hf7⟩
  refine HK.out _ _ ?_ ?_
  · exact ⟨hS.1.trans hf7 (fun i hi => .inl (.inr hi)), hs7.disk⟩
  clear HK K
  try simp only [Act.put, List.setIfInBounds_toArray, List.set_cons_zero, List.set_cons_succ]
  have P7 : Hid (DSPost w5 d s FD5 FS dk2 (st.told q) v7) := Lib.hid (P6.out.next (fun FD' h' => DSPost.store h' hf7 hs7))
  have hS9 := And.intro (hS.1.trans hf7 (fun i hi => .inl (.inr hi))) hs7.disk
  clear hS hs7 hf7 P6 D6
  have hS := hS9
  clear hS9
  refine held_take (i := 8) 7 (v := ?vc8x7) rfl rfl (by kernel_rfl) (by kernel_rfl) (by kernel_rfl) (fun _ _ _ h => h) hS (by rfl) ?hc8x7 ?rc8x7
  case hc8x7 =>
    intro w9 s9
    clear s9
    go_simp
    try (with_reducible rfl)
  simp only [List.setIfInBounds_toArray, List.set_cons_zero, List.set_cons_succ]
  refine wpAnyH_done (by kernel_rfl) ?_ _
  have Y7 := (hS.1.block w4.heap.size hly hny).trans Y5.out
  clear hS
  have hsr := HSR.out
  by_cases h0 : q = 0
  · subst h0
    rw [if_pos rfl] at hsr
    subst hsr
    have PT7 := P7.out
    rw [told_0] at PT7
    obtain ⟨FD7, hD7, hF7, hN7⟩ := PT7
    obtain ⟨f7, g7, x0, x1, x2, x3, x4, x5, x6, xf⟩ := hD7.sto.cells
    have y1 := xf 1
    have y2 := xf 2
    have y3 := xf 3
    have c0 : v7.cell? ⟨w4.heap.size, 0, none⟩ = some (.int .i64 HN.gen) := by rw [Go.Joins.cell_of_block Y7]; rfl
    have c1 : v7.cell? ⟨w4.heap.size, 1, none⟩ = some (.int .i64 HN.root) := by rw [Go.Joins.cell_of_block Y7]; rfl
    have c2 : v7.cell? ⟨w4.heap.size, 2, none⟩ = some (.string HN.used) := by rw [Go.Joins.cell_of_block Y7]; rfl
    obtain ⟨hsh, hfh⟩ := hD7.sto.setHead HN HOK.out
    have RB := Lib.hid (rollback_is _ s d _ FS hsh)
    have FIN : Hid (∀ w9, (Sto w9 s d ({ st with h := HN } : ShS).back FS ∧ Frm FS (((v7.setCell ⟨s, 1, none⟩ (.int .i64 HN.gen)).setCell ⟨s, 2, none⟩ (.int .i64 HN.root)).setCell ⟨s, 3, none⟩ (.string HN.used)) w9) → DSPost w d s FD FS dk2 ⟨HN, [], [], st.up⟩ w9) := Lib.hid (fun w9 hx => P5'.out _ _ _ (DSPost.trans (dk1 := dk2) (st1 := st) hF7.size hF7 hN7 (DSPost.store hD7 (hfh.trans hx.2 (fun i hi => .inl hi)) hx.1)))
    clear hD7 hF7 hN7 hsh hfh xf P7 Y7
    go_wp2_with fail
    refine RB.out.mono ?_
    rintro e w9 ⟨rfl, hx⟩
    have P9 := Lib.hid (FIN.out w9 hx)
    clear hx FIN
    go_wp2_with fail
    go_ret
    exact ⟨rfl, P9.out⟩
  · rw [if_neg h0] at hsr
    subst hsr
    have h1 : (q == 0) = false := by simpa using h0
    have h2 : (q != 0) = true := by simpa using h0
    have P9 := Lib.hid (P5'.out _ _ _ P7.out)
    clear P7 Y7 HSR
    go_wp2_with fail
    go_ret
    exact ⟨rfl, P9.out⟩
/-- Commit, whatever it is asked. -/
theorem commit_is (w : World) (d s : Nat) (dk : DkS) (st : ShS) (FD FS : Nat → Prop) (h : DS w d s dk st FD FS) (root : Int) (hr : root < 9223372036854775808) :
    Calls Tryd.prog 15 #[.pointer (some ⟨s, 0, none⟩), .int .i64 root] w fun e w' => e = .returned (.int .i64 (st.commit dk root).2.2) ∧ DSPost w d s FD FS (st.commit dk root).1 (st.commit dk root).2.1 w' := by
  unfold ShS.commit
  cases hu : st.up
  · rw [if_pos rfl]; exact commit_down w d s dk st FD FS h root hu
  · rw [if_neg (by decide)]
    cases hm : mayB st root
    · rw [if_pos rfl]; exact commit_may w d s dk st FD FS h root hu hr hm
    · rw [if_neg (by decide)]
      by_cases hg : st.h.gen = 281474976710655
      · rw [if_pos hg]; exact commit_last w d s dk st FD FS h root hu hr hm hg
      · rw [if_neg hg]
        by_cases hs : dk.sync.2 = 0
        · rw [if_neg (by simpa using hs)]
          have := commit_on w d s dk st FD FS h root hu hr hm hg hs
          by_cases hq : (wrHead dk.sync.1 (nextH st root)).2 = 0
          · rw [if_neg (by simpa using hq)]
            rw [if_pos hq, hq, hu] at this
            exact this
          · rw [if_pos hq]
            rw [if_neg hq] at this
            exact this
        · rw [if_pos hs]; exact commit_sync w d s dk st FD FS h root hu hr hm hg hs
end Go.Proofs.YtbjmbndeaobbeaaDoor
