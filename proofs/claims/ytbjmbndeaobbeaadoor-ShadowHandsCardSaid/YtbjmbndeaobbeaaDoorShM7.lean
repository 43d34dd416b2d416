/-
  Package shadow: a store that is made, or found.
-/
import Derived.Test.YtbjmbndeaobbeaaDoorShM6
import Derived.Test.YtbjmbndeaobbeaaDoorBitsNew
import Derived.Test.YtbjmbndeaobbeaaDoorTakePut
namespace Go.Proofs.YtbjmbndeaobbeaaDoor
open Go.RowKit
set_option linter.unusedVariables false
set_option linter.unusedSimpArgs false
def fmtH : HdS := ⟨1, 0, Str (List.replicate 80 0)⟩
theorem fmtH_ok : HdOk fmtH := ⟨by decide, by decide, by decide, by decide, by show (Str (List.replicate 80 0)).size = 80; decide⟩
/-- A store of the call's own stands on a disk. -/
def Born (w : World) (d : Nat) (dk : DkS) (st : ShS) (F : Nat → Prop) (w' : World) (v : Value) : Prop := ∃ s FS FD', v = .pointer (some ⟨s, 0, none⟩) ∧ DS w' d s dk st FD' FS ∧ Frm F w w' ∧ (∀ k, FD' k → F k ∨ w.heap.size ≤ k) ∧ ∀ k, FS k → w.heap.size ≤ k
theorem Born.of {w w1 w2 : World} {d : Nat} {dk : DkS} {st : ShS} {F : Nat → Prop} {v : Value} (h : DkPost w d dk F w1) (b : Below w1.heap.size w1 w2) (ho : Opened w2 d st w1 v) : Born w d dk st F w2 v := by
  obtain ⟨FD', h1, h2, h3⟩ := h
  obtain ⟨s, FS, rfl, hs, hn⟩ := ho
  refine ⟨s, FS, FD', rfl, ⟨h1.below b, hs, fun k hk hx => ?_⟩, h2.trans (Frm.of_below (F := F) b) (fun i hi => .inl hi), h3, fun k hk => Nat.le_trans h2.size (hn k hk)⟩
  have := h1.lt k hk
  have := hn k hx
  omega
def FmtPost (w : World) (d : Nat) (F : Nat → Prop) (r : DkS × Int) (e : Ending) (w' : World) : Prop :=
  (r.2 = 0 → ∃ v, e = .returned (.tuple #[v, .int .i64 0]) ∧ Born w d r.1 (ShS.new fmtH) F w' v) ∧ (r.2 ≠ 0 → e = .returned (.tuple #[.pointer none, .int .i64 r.2]) ∧ DkPost w d r.1 F w')
set_option maxHeartbeats 3200000 in
set_option maxRecDepth 20000 in
theorem format_is (w : World) (d : Nat) (dk : DkS) (F : Nat → Prop) (hd : Dk w d dk F) :
    Calls Tryd.prog 25 #[.pointer (some ⟨d, 0, none⟩)] w fun e w' => FmtPost w d F (wrHead dk fmtH) e w' := by
  have BN := Lib.hid (fun w => new_any 640 w (by decide) (by decide))
  have hn : newN 640 = 80 := by decide
  rw [hn] at BN
  obtain ⟨T, hT⟩ : ∃ T, Str (List.replicate 80 0) = T := ⟨_, rfl⟩
  rw [hT] at BN
  have WRH := Lib.hid (fun w' FD' (h' : Dk w' d dk FD') => writeHead_is w' d dk FD' h' fmtH fmtH_ok.g0 (by have := fmtH_ok.g1; omega) fmtH_ok.r0 (by have := fmtH_ok.r1; omega) (by have := fmtH_ok.u; omega))
  have OPN := Lib.hid (fun w' => open_is w' d fmtH fmtH_ok)
  have hH : fmtH = ⟨1, 0, T⟩ := by rw [← hT]; rfl
  obtain ⟨⟨dk2, q⟩, hq⟩ : ∃ r, wrHead dk fmtH = r := ⟨_, rfl⟩
  rw [hq] at WRH ⊢
  unfold hdV at WRH OPN
  have hg : fmtH.gen = 1 := rfl
  have hr : fmtH.root = 0 := rfl
  have hu : fmtH.used = T := hT
  rw [hg, hr, hu] at WRH OPN
  have HD := Lib.hid hd
  clear hd hn hT hH hq hg hr hu
  go_enter Tryd.func25, Tryd.ntmps25
  go_wp2_with fail
  refine (BN.out _).mono ?_
  rintro e w1 ⟨rfl, b1⟩
  have B1 := Lib.hid b1
  clear b1
  go_upto_region 2 with fail
  obtain ⟨w2, hw2⟩ : ∃ w2, w1.alloc (.cells #[.int .i64 1, .int .i64 0, .string T] 54) = w2 := ⟨_, rfl⟩
  rw [hw2]
  have b2 : Below w1.heap.size w1 w2 := by rw [← hw2]; exact below_made _ _
  have X2 : w2.heap[w1.heap.size]? = some (.cells #[.int .i64 1, .int .i64 0, .string T] 54) := by rw [← hw2]; exact heap_alloc_new _ _
  have B2 := Lib.hid (chain B1.out b2)
  have HD2 := Lib.hid (HD.out.below B2.out)
  have HL : ¬ F w1.heap.size := fun hx => by
    have := HD.out.lt _ hx
    have := B1.out.size
    omega
  have LY := (Array.getElem?_eq_some_iff.1 X2).1
  have XH := Lib.hid X2
  have y0 : w2.cell? ⟨w1.heap.size, 0, none⟩ = some (.int .i64 1) := by rw [Go.Joins.cell_of_block X2]; rfl
  have y1 : w2.cell? ⟨w1.heap.size, 1, none⟩ = some (.int .i64 0) := by rw [Go.Joins.cell_of_block X2]; rfl
  have y2 : w2.cell? ⟨w1.heap.size, 2, none⟩ = some (.string T) := by rw [Go.Joins.cell_of_block X2]; rfl
  clear b2 hw2 X2 HD
  go_wp2_with fail
  refine (WRH.out _ F HD2.out).mono ?_
  rintro e w3 ⟨rfl, hp⟩
  obtain ⟨FD3, h3, f3, n3⟩ := hp
  have P3 : Hid (DkPost w d dk2 F w3) := Lib.hid ⟨FD3, h3, (Frm.of_below (F := F) B2.out).trans f3 (fun i hi => .inl hi), fun k hk => (n3 k hk).imp id (fun h => Nat.le_trans B2.out.size h)⟩
  have X3 := (f3.block _ LY HL).trans XH.out
  have z0 : w3.cell? ⟨w1.heap.size, 0, none⟩ = some (.int .i64 1) := by rw [Go.Joins.cell_of_block X3]; rfl
  have z1 : w3.cell? ⟨w1.heap.size, 1, none⟩ = some (.int .i64 0) := by rw [Go.Joins.cell_of_block X3]; rfl
  have z2 : w3.cell? ⟨w1.heap.size, 2, none⟩ = some (.string T) := by rw [Go.Joins.cell_of_block X3]; rfl
  clear h3 f3 n3 X3 y0 y1 y2 XH HL LY
  by_cases h0 : q = 0
  · subst h0
    go_wp2_with fail
    refine (OPN.out _).mono ?_
    rintro e w4 ⟨v, rfl, ho, b4⟩
    have BB := Lib.hid (Born.of P3.out b4 ho)
    clear ho b4
    go_wp2_with fail
    go_ret2
    exact ⟨fun _ => ⟨_, rfl, BB.out⟩, fun h => absurd rfl h⟩
  · have h1 : (q == 0) = false := by simpa using h0
    have h2 : (q != 0) = true := by simpa using h0
    go_wp2_with fail
    go_ret2
    exact ⟨fun h => absurd h h0, fun _ => ⟨rfl, P3.out⟩⟩
theorem rdHead_ok {st : DkS} {n : Int} {h : HdS} (hh : rdHead st n = (h, true)) : HdOk h := by
  unfold rdHead at hh
  by_cases hc : rdE st n = 0 ∧ rdK st n = 1 ∧ (rdT st n).size = 88
  · rw [if_pos hc] at hh
    have e : parseH (rdT st n) = h := congrArg Prod.fst hh
    subst e
    have h88 := hc.2.2
    have t6 := take_rng (rdT st n) 6 (by decide) (by decide)
    have t2 := take_rng (takeR (rdT st n) 6) 2 (by decide) (by decide)
    exact ⟨t6.1, t6.2, t2.1, t2.2, (by
      have p1 := (pt_back (rdT st n) (k := 6) (by decide) (by decide) (by omega)).2
      have p2 := (pt_back (takeR (rdT st n) 6) (k := 2) (by decide) (by decide) (by omega)).2
      show (takeR (takeR (rdT st n) 6) 2).size = 80
      omega)⟩
  · rw [if_neg hc] at hh
    cases hh
theorem lastH_ok {st : DkS} {h : HdS} (hh : lastH st = (h, true)) : HdOk h := by
  have key : ∀ j, (foldH st j).2 = true → HdOk (foldH st j).1 := by
    intro j
    induction j with
    | zero => intro hx; cases hx
    | succ j ih =>
      intro hx
      have hs : foldH st (j + 1) = stepH (foldH st j) (rdHead st (j : Int)) := rfl
      rw [hs] at hx ⊢
      unfold stepH at hx ⊢
      by_cases hc : (rdHead st (j : Int)).2 = true ∧ (foldH st j).1.gen < (rdHead st (j : Int)).1.gen
      · rw [if_pos hc]
        exact rdHead_ok (h := (rdHead st (j : Int)).1) (n := (j : Int)) (st := st) (Prod.ext rfl hc.1)
      · rw [if_neg hc] at hx ⊢; exact ih hx
  have := key 2
  unfold lastH at hh
  rw [hh] at this
  exact this rfl
def mountE (dk : DkS) : Int := if dk.up = true then (if (lastH dk).2 = true then 0 else 3) else 5
def MntPost (w : World) (d : Nat) (dk : DkS) (F : Nat → Prop) (e : Ending) (w' : World) : Prop :=
  (mountE dk = 0 → ∃ v, e = .returned (.tuple #[v, .int .i64 0]) ∧ Born w d dk (ShS.new (lastH dk).1) F w' v) ∧ (mountE dk ≠ 0 → e = .returned (.tuple #[.pointer none, .int .i64 (mountE dk)]) ∧ Below w.heap.size w w')
set_option maxHeartbeats 3200000 in
set_option maxRecDepth 20000 in
theorem mount_is (w : World) (d : Nat) (dk : DkS) (F : Nat → Prop) (hd : Dk w d dk F) :
    Calls Tryd.prog 17 #[.pointer (some ⟨d, 0, none⟩)] w fun e w' => MntPost w d dk F e w' := by
  have UP := Lib.hid (up_is w d dk F hd)
  have LH := Lib.hid (lastHead_is w d dk F hd)
  have OPN : Hid ((lastH dk).2 = true → ∀ w', Calls Tryd.prog 38 #[.pointer (some ⟨d, 0, none⟩), hdV (lastH dk).1] w' fun e w2 => ∃ v, e = .returned v ∧ Opened w2 d (ShS.new (lastH dk).1) w' v ∧ Below w'.heap.size w' w2) := Lib.hid (fun h w' => open_is w' d (lastH dk).1 (lastH_ok (h := (lastH dk).1) (Prod.ext rfl h)))
  have ME : Hid (mountE dk = if dk.up = true then (if (lastH dk).2 = true then 0 else 3) else 5) := Lib.hid rfl
  unfold MntPost
  have PS : Hid (∀ w1, Below w.heap.size w w1 → DkPost w d dk F w1) := Lib.hid (fun w1 b => ⟨F, hd.below b, Frm.of_below b, fun k hk => .inl hk⟩)
  obtain ⟨me, hme⟩ : ∃ me, mountE dk = me := ⟨_, rfl⟩
  rw [hme] at ME ⊢
  obtain ⟨⟨H, ok⟩, hH⟩ : ∃ r, lastH dk = r := ⟨_, rfl⟩
  rw [hH] at LH OPN ME ⊢
  dsimp only at LH OPN ME ⊢
  obtain ⟨up, hup⟩ : ∃ u, dk.up = u := ⟨_, rfl⟩
  rw [hup] at UP ME
  unfold hdV at LH OPN
  clear hme hH hup hd
  go_enter Tryd.func17, Tryd.ntmps17
  go_wp2_with fail
  refine UP.out.mono ?_
  rintro e w0 ⟨rfl, rfl⟩
  cases up
  · have hme : me = 5 := ME.out
    subst hme
    go_wp2_with fail
    go_ret2
    exact ⟨fun h => absurd h (by decide), fun _ => ⟨rfl, Below.refl _ _⟩⟩
  · go_wp2_with fail
    refine LH.out.mono ?_
    rintro e w1 ⟨rfl, b1⟩
    have B1 := Lib.hid b1
    clear b1
    dsimp only
    go_upto_region 4 with fail
    obtain ⟨w2, hw2⟩ : ∃ w2, w1.alloc (.cells #[.int .i64 H.gen, .int .i64 H.root, .string H.used] 54) = w2 := ⟨_, rfl⟩
    rw [hw2]
    have b2 : Below w1.heap.size w1 w2 := by rw [← hw2]; exact below_made _ _
    have X2 : w2.heap[w1.heap.size]? = some (.cells #[.int .i64 H.gen, .int .i64 H.root, .string H.used] 54) := by rw [← hw2]; exact heap_alloc_new _ _
    have B2 := Lib.hid (chain B1.out b2)
    have y0 : w2.cell? ⟨w1.heap.size, 0, none⟩ = some (.int .i64 H.gen) := by rw [Go.Joins.cell_of_block X2]; rfl
    have y1 : w2.cell? ⟨w1.heap.size, 1, none⟩ = some (.int .i64 H.root) := by rw [Go.Joins.cell_of_block X2]; rfl
    have y2 : w2.cell? ⟨w1.heap.size, 2, none⟩ = some (.string H.used) := by rw [Go.Joins.cell_of_block X2]; rfl
    clear b2 hw2 X2
    cases ok
    · have hme : me = 3 := ME.out
      subst hme
      go_wp2_with fail
      go_ret2
      exact ⟨fun h => absurd h (by decide), fun _ => ⟨rfl, B2.out⟩⟩
    · have hme : me = 0 := ME.out
      subst hme
      have OP := Lib.hid (OPN.out rfl)
      go_wp2_with fail
      refine (OP.out _).mono ?_
      rintro e w4 ⟨v, rfl, ho, b4⟩
      have BB := Lib.hid (Born.of (PS.out _ B2.out) b4 ho)
      clear ho b4
      go_wp2_with fail
      go_ret2
      first | exact ⟨_, rfl, BB.out⟩ | exact ⟨fun _ => ⟨_, rfl, BB.out⟩, fun h => absurd rfl h⟩
end Go.Proofs.YtbjmbndeaobbeaaDoor
