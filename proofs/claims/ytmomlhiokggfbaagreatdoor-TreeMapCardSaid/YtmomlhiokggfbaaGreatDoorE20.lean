/-
 TrSn, TrB, TrPs, RefSl, Rk, RkW, RkY, RkN, RkS.
-/
import Derived.Test.YtmomlhiokggfbaaGreatDoorE19
import Derived.Maps.OwnIn
import Derived.Test.YtmomlhiokggfbaaGreatDoorE18
import Derived.Test.YtmomlhiokggfbaaGreatDoorE07
import Derived.Deep.RegionHeld3
import Derived.StillTailTactics
import Derived.BigQuiet
import Derived.Test.YtmomlhiokggfbaaGreatDoorE12
namespace Go.Proofs.YtmomlhiokggfbaaGreatDoor
open Go.RowKit
set_option maxRecDepth 20000
set_option maxHeartbeats 12800000
attribute [local go_sem] Oper.semAt_some
def rowE (e : Ent) : List Value := [.int .u64 e.1, .string e.2]
def rowsE (L : List Ent) : List Value := (L.map rowE).flatten
theorem rowsE_snoc (L : List Ent) (x : Ent) : rowsE (L ++ [x]) = rowsE L ++ rowE x := by simp [rowsE]
theorem info_entry : ∃ i z, Tryz.prog.info? 50 = some i ∧ i.zero = some z ∧ i.size = 2 ∧ i.bytes = 24 ∧ z.cells.size = 2 := by
 have h : (Tryz.prog.info? 50).bind (fun i => i.zero.map fun z => (i.size, i.bytes, z.cells.size)) = some (2, 24, 2) := by kernel_rfl
 cases hq : Tryz.prog.info? 50 with
 | none => rw [hq] at h; cases h
 | some i =>
  rw [hq] at h
  cases hz : i.zero with
  | none => simp [hz] at h
  | some z => simp [hz] at h; exact ⟨i, z, rfl, hz, h.1, h.2.1, h.2.2⟩
def ScI (lb mb : Nat) (most : Int) (pre : List Ent) (C : Nat → Prop) (W : World) : Prop :=
 ∃ v, W.heap[lb]? = some (.cells #[v] 43) ∧ W.heap[mb]? = some (.cells #[.int .i64 most] 3) ∧ W.ownsRow (lb + 1) 50 2 v pre.length (rowsE pre) ∧ ∀ k, C k ↔ k = lb ∨ k = mb ∨ v.ownBlock = some k
theorem ScI.on {lb mb : Nat} {most : Int} {pre : List Ent} {C : Nat → Prop} {A B : World} (h : ScI lb mb most pre C A) (ho : OnC C A B) : ScI lb mb most pre C B := by
 obtain ⟨v, h1, h2, h3, h4⟩ := h;have lt : ∀ {k : Nat} {o : Obj}, A.heap[k]? = some o → k < A.heap.size := fun h => (Array.getElem?_eq_some_iff.1 h).1
 refine ⟨v, (ho.block _ (lt h1) ((h4 _).2 (.inl rfl))).trans h1, (ho.block _ (lt h2) ((h4 _).2 (.inr (.inl rfl)))).trans h2, ⟨h3.1, ?_⟩, h4⟩
 rcases h3.2 with hx | ⟨g, cap, cur, hv, hbg, hh, r⟩
 ·exact .inl hx
 ·exact .inr ⟨g, cap, cur, hv, hbg, (ho.block g (lt hh) ((h4 g).2 (.inr (.inr (by rw [hv]; rfl))))).trans hh, r⟩
theorem ScI.lt {lb mb : Nat} {most : Int} {pre : List Ent} {C : Nat → Prop} {A : World} (h : ScI lb mb most pre C A) (k : Nat) (hk : C k) : k < A.heap.size := by
 obtain ⟨v, h1, h2, h3, h4⟩ := h
 rcases (h4 k).1 hk with rfl | rfl | h5
 ·exact (Array.getElem?_eq_some_iff.1 h1).1
 ·exact (Array.getElem?_eq_some_iff.1 h2).1
 ·exact (h3.lt k h5).2
theorem scanE_len (key : Int) (E : List Ent) : (scanE key E).length ≤ E.length := List.length_filter_le ..
theorem scan_is (w : World) (d s : Nat) (dk : DkS) (st : ShS) (F : Nat → Prop) (h : SD w d s dk st F) (G : Good dk st) (root : Int) (E : List Ent) (ht : TreeI dk st root E) (hE : E.length ≤ 600) (key most : Int) :
  Calls Tryz.prog 19 #[.pointer (some ⟨s, 0, none⟩), .int .i64 root, .int .u64 key, .int .i64 most] w fun e w' => ∃ v, e = .returned (.tuple #[v, .int .i64 0]) ∧ w'.ownsRow w.heap.size 50 2 v ((scanE key E).take most.toNat).length (rowsE ((scanE key E).take most.toNat)) ∧ SD w' d s dk st F ∧ Frm F w w' := by
 by_cases hz : root = 0 ∨ most < 1
 ·have e1 : (scanE key E).take most.toNat = [] := by
   rcases hz with hz | hz
   ·rcases ht with ⟨_, rfl, _⟩ | ⟨hh, F0, P0, hi, hs, rfl, hl⟩
    ·simp [scanE]
    ·obtain ⟨M, PM, m1, _⟩ := hi
     have := (Rn_read m1).1;omega
   ·rw [show most.toNat = 0 by omega]; rfl
  have FIN : Hid (∀ w', Below w.heap.size w w' → w'.ownsRow w.heap.size 50 2 (.slice none 0 0) 0 [] ∧ SD w' d s dk st F ∧ Frm F w w') := Hd (fun w' hb => ⟨World.ownsRow_nil _ _ _ _, h.below hb, Frm.of_below hb⟩);rw [e1]
  have hr : (root == 0) = true ∨ ((root == 0) = false ∧ most < 1) := by
   by_cases h0 : root = 0
   ·exact .inl (by rw [h0]; rfl)
   ·exact .inr ⟨beq_eq_false_iff_ne.2 h0, by omega⟩
  have bA : Hid (Below w.heap.size w (w.alloc (.cells #[.int .i64 most] 3))) := Hd (below_made _ _);clear h G ht hz e1
  rcases hr with hr | ⟨hr, hm⟩
  ·go_enter Tryz.func19, Tryz.ntmps19
   go_wp2_with fail;go_ret2;exact ⟨_, rfl, FIN.out _ bA.out⟩
  ·go_enter Tryz.func19, Tryz.ntmps19
   go_wp2_with fail;go_ret2;exact ⟨_, rfl, FIN.out _ bA.out⟩
 ·rcases ht with ⟨rfl, rfl, _⟩ | ⟨hh, F0, P0, hi, hs, rfl, hl⟩
  ·exact absurd (.inl rfl) hz
  have h9 := hi.low hE;have hP : P0.length ≤ 640 := few_of hl.1 fun x hx => hl.rng G hx
  have h0' : (root == 0) = false := beq_eq_false_iff_ne.2 fun e => hz (.inl e)
  have hm1 : ¬ most < 1 := fun e => hz (.inr e)
  have hu := G.su;obtain ⟨n0, hn0⟩ : ∃ n0, w.heap.size = n0 := ⟨_, rfl⟩
  obtain ⟨x0, hx0⟩ : ∃ x0, w.alloc (.cells #[.int .i64 most] 3) = x0 := ⟨_, rfl⟩
  have b0 := below_made w (.cells #[.int .i64 most] 3);have m0 := heap_alloc_new w (.cells #[.int .i64 most] 3);have z0 : (w.alloc (.cells #[.int .i64 most] 3)).heap.size = n0 + 1 := by simp [hn0]
  rw [hx0, hn0] at b0 m0;rw [hx0] at z0;obtain ⟨x1, hx1⟩ : ∃ x1, x0.alloc (visO s 0) = x1 := ⟨_, rfl⟩
  have b1 := below_made x0 (visO s 0);have T1 := (h.below (by rw [hn0]; exact b0)).visit;have z1 : (x0.alloc (visO s 0)).heap.size = n0 + 2 := by simp [z0]
  rw [hx1, z0] at b1 T1;rw [hx1] at z1;obtain ⟨x2, hx2⟩ : ∃ x2, x1.alloc (.cells #[.slice none 0 0] 43) = x2 := ⟨_, rfl⟩
  have b2 := below_made x1 (.cells #[.slice none 0 0] 43);have l2 := heap_alloc_new x1 (.cells #[.slice none 0 0] 43);have z2 : (x1.alloc (.cells #[.slice none 0 0] 43)).heap.size = n0 + 3 := by simp [z1]
  rw [hx2, z1] at b2 l2;rw [hx2] at z2;have T2 := T1.below (by rw [z1]; exact b2);have m2 : x2.heap[n0]? = some (.cells #[.int .i64 most] 3) := (b2.block _ (by omega)).trans ((b1.block _ (by omega)).trans m0);have bw2 : Below n0 w x2 := (b0.trans (b1.mono (by omega))).trans (b2.mono (by omega));have FI := Hd (from_is x2 (n0 + 1) root 1 key);have hx1' : x0.alloc (.cells #[.pointer (some ⟨s, 0, none⟩), .int .i64 0, .int .i64 0] 88) = x1 := hx1;clear hx1;refine (callsIn_wide (n := 0)).1 (callsIn_of_wp_marks (F := Fence.wide) (n := 0) Tryz.func19 rfl trivial (wpIn_wide.2 ?_) rfl)
  simp only [Tryz.ntmps19, List.size_toArray, List.length_cons, List.length_nil, Nat.reduceAdd, Nat.reduceSub, Array.replicate_succ, Array.replicate_zero, List.push_toArray, List.append_toArray, List.nil_append, List.cons_append];have HL := Hd (And.intro m2 l2);have HT2 := Hd T2;have HB := Hd (And.intro bw2 z2);have HH := Hd h;have HI := Hd (And.intro hi (And.intro hs (And.intro h9 hP)));have HX := Hd (And.intro hx0 (And.intro hx1' hx2));have HN := Hd hn0;have HE6 := Hd hE;clear T1 T2 b0 b1 b2 m0 l2 m2 bw2 h hi hs hl hz hE G z0 z1 hx0 hx1' hx2 hn0 h9 hP;go_wp2_with fail
  rw [HX.out.1, HX.out.2.1, HX.out.2.2, HN.out];refine FI.out.mono ?_;rintro e w6 ⟨rfl, hbx, b6, s6⟩;rw [z2] at hbx b6 s6 ⊢;simp only [Nat.add_assoc, Nat.reduceAdd] at hbx s6 ⊢;clear z2 FI;go_wp2_with fail;have hF0 : ∀ k, F k → k < n0 := fun k hk => by rw [← HN.out]; exact HH.out.lt k hk
  have hT6 := HT2.out.below (by rw [HB.out.2]; exact b6);have hm6 : w6.heap[n0]? = some (.cells #[.int .i64 most] 3) := (b6.block _ (by omega)).trans HL.out.1;have hl6 : w6.heap[n0 + 2]? = some (.cells #[.slice none 0 0] 43) := (b6.block _ (by omega)).trans HL.out.2;have hb6 : Below n0 w w6 := HB.out.1.trans (b6.mono (by omega))
  have hit := from_iter key hh w6 d s (n0 + 1) dk st 0 (fun k => F k ∨ k = n0 + 1) hT6 hu root F0 P0 HI.out.1 HI.out.2.1 1 (by omega) (by have := HI.out.2.2.1; omega) (by have := HI.out.2.2.2; omega) (n0 + 3) (n0 + 4) (n0 + 5) (n0 + 6) hbx ⟨fun h => by rcases h with h | h; (have := hF0 _ h; omega); omega, fun h => by rcases h with h | h; (have := hF0 _ h; omega); omega, fun h => by rcases h with h | h; (have := hF0 _ h; omega); omega, fun h => by rcases h with h | h; (have := hF0 _ h; omega); omega⟩
  have hGn : ∀ k, FF (fun k => F k ∨ k = n0 + 1) (n0 + 3) (n0 + 4) (n0 + 5) (n0 + 6) k → F k ∨ k = n0 + 1 ∨ n0 + 3 ≤ k := fun k hk => by
   rcases hk with (hk | hk) | hk | hk | hk | hk
   ·exact .inl hk
   ·exact .inr (.inl hk)
   all_goals exact .inr (.inr (by omega))
  have FIN : ∀ (D : Nat) (v : Value) (L : List Ent) (C' : Nat → Prop) (W W' : World), w6.heap.size ≤ D → ScI (n0 + 2) n0 most L C' W → (∀ k, C' k ↔ k = n0 + 2 ∨ k = n0 ∨ v.ownBlock = some k) → W.ownsRow (n0 + 2 + 1) 50 2 v L.length (rowsE L) → VP d s (n0 + 1) dk st 0 (fun k => F k ∨ k = n0 + 1) P0.length W → Frm (fun k => (k = n0 + 2 ∨ k = n0) ∨ FF (fun k => F k ∨ k = n0 + 1) (n0 + 3) (n0 + 4) (n0 + 5) (n0 + 6) k) w6 W → ¬ C' D → Frm (fun k => k ∈ [D]) W W' → W'.ownsRow n0 50 2 v L.length (rowsE L) ∧ SD W' d s dk st F ∧ Frm F w W' := by
   intro D v L C' W W' hD hS hC hown hV hfr hnD hm;refine ⟨?_, ?_⟩
   ·have h1 := own_frmZ hown hm fun k hk hd => by
     rw [List.mem_singleton] at hd;exact hnD ((hC D).2 (.inr (.inr (hd ▸ hk))))
    refine ⟨h1.1, ?_⟩
    rcases h1.2 with hx | ⟨g, cap, cur, hv, hbg, r⟩
    ·exact .inl hx
    ·exact .inr ⟨g, cap, cur, hv, by omega, r⟩
   ·obtain ⟨r', _, _, FD, FS, hti, he⟩ := hV
    have hDn : n0 + 7 ≤ D := by omega
    have hSD : SD W d s dk st F := ⟨FD, FS, hti.ds, fun k => ⟨fun hk => ?_, fun hk => ?_⟩⟩
    ·refine ⟨hSD.frm hm fun k hk hd => ?_, ?_⟩
     ·rw [List.mem_singleton] at hd
      have := hF0 k hk;omega
     ·refine ((Frm.of_below (by rw [HN.out]; exact hb6)).trans hfr fun k hk => ?_).trans hm fun k hk => ?_
      ·rw [HN.out]
       rcases hk with (hk | hk) | hk
       ·exact .inr (by omega)
       ·exact .inr (by omega)
       ·rcases hGn k hk with h1 | h1 | h1
        ·exact .inl h1
        ·exact .inr (by omega)
        ·exact .inr (by omega)
      ·rw [List.mem_singleton] at hk
       rw [HN.out];exact .inr (by omega)
    ·rcases (he k).1 (.inl hk) with h1 | h1 | h1
     ·exact .inl h1
     ·exact .inr h1
     ·have := hF0 k hk; omega
    ·rcases (he k).2 (hk.imp id .inl) with h1 | h1
     ·exact h1
     ·rw [h1] at hk
      rcases hk with hk | hk
      ·exact absurd hk hti.gd
      ·exact absurd hk hti.gs
  have HFIN := Hd FIN;clear FIN
  refine (wpIn_wide (n := 0)).1 (rangeK rfl (enters_of Tryz.func90 (by kernel_rfl) rfl) hit (fun Wz lz o hz hv => ?_) (fun k hk => ?_) (by intro _; rfl) (fun k => k = n0 + 2 ∨ k = n0) (fun k hk hg => ?_) (fun pre C W => ScI (n0 + 2) n0 most pre C W ∧ (pre.length : Int) < most) (fun c pre C W => c = .exit 0 ∧ ScI (n0 + 2) n0 most pre C W ∧ (pre.length : Int) = most) (fun s D A B hh ho => ⟨hh.1.on ho, hh.2⟩) (fun c s D A B hh ho => ⟨hh.1, hh.2.1.on ho, hh.2.2⟩) (fun s D A hh => hh.1.lt) (fun c s D A hh => hh.2.1.lt) ⟨⟨.slice none 0 0, hl6, hm6, World.ownsRow_nil _ _ _ _, fun k => by simp [Value.ownBlock]⟩, by simp; omega⟩ ?_ ?_ ?_)
  ·obtain ⟨r', g1, g2, g3⟩ := hv
   exact ⟨r', g1, g2, g3.frm (putObj_frm Wz lz o) fun k hk e => by have := hT6.lt k hk; omega⟩
  ·rcases hGn k hk with h1 | h1 | h1
   ·have := hF0 k h1; omega
   ·omega
   ·rcases hk with hk | hk | hk | hk | hk
    ·exact hT6.lt k hk
    all_goals omega
  ·rcases hk with rfl | rfl
   ·rcases hGn _ hg with h1 | h1 | h1
    ·have := hF0 _ h1; omega
    ·omega
    ·omega
   ·rcases hGn _ hg with h1 | h1 | h1
    ·have := hF0 _ h1; omega
    ·omega
    ·omega
  ·intro l pre x C1 Wz hpre hI hD hz hnl hll
   have bE := below_made Wz (.cells #[.int .u64 x.1, .string x.2] 50);have nE := heap_alloc_new Wz (.cells #[.int .u64 x.1, .string x.2] 50);obtain ⟨Wa, hWa⟩ : ∃ Wa, Wz.alloc (.cells #[.int .u64 x.1, .string x.2] 50) = Wa := ⟨_, rfl⟩
   rw [hWa] at bE nE;unfold encE;gi_wp2;try rw [hWa]
   refine ⟨bE, fun Wb hfb hIb => ?_⟩;have HI0 := Hd hIb;obtain ⟨⟨v, e1, e2, hown, hDi⟩, hlm⟩ := hIb;have eb : Wb.heap[Wz.heap.size]? = some (.cells #[.int .u64 x.1, .string x.2] 50) := (hfb.block _ (Array.getElem?_eq_some_iff.1 nE).1 (by omega)).trans nE;obtain ⟨eb0, eb1⟩ := cellsE eb;obtain ⟨cy, cyf⟩ := box1 e1;obtain ⟨va, vc, rfl, hv1, hv2⟩ := own_shape7 hown;obtain ⟨i, z, hi, hz0, hz1, hz2, hz3⟩ := info_entry;have OWN := Hd hown;have HD := Hd hDi;have HLT := Hd hlm;have HB1 := Hd (And.intro e1 e2)
   have hlen : pre.length ≤ 600 := by
    have h1 := hpre.length_le;have h2 := scanE_len key (entsM F0);simp at h1;have := HE6.out;omega
   clear hown hDi hlm e1 e2 hfb eb nE bE hWa
   gi_wp2_with (gi_at_builtin; refine wpListIn_append_own_at _ rfl (.tmp 25) (.tmp 27) 43 rfl (n0 + 2 + 1) 50 i z 2 24 Tryz.underlying43 hi hz0 hz1 hz2 hz3 (by decide) _ _ _ rfl (OWN.out.alloc _) ⟨Wb.heap.size, 0, none⟩ 1 1 (rowE x) rfl rfl ?c1 ?c2 ?c3 ?c4 ?c5 ?_)
   case c1 =>
    intro j u hj
    match j, hj with
    | 0, hj =>
     injection hj with hj;subst hj;exact (cellsE (heap_alloc_new Wb _)).1
    | 1, hj =>
     injection hj with hj;subst hj;exact (cellsE (heap_alloc_new Wb _)).2
    | j + 2, hj => simp [rowE] at hj
   case c2 =>
    intro u hu;simp only [rowE, List.mem_cons, List.not_mem_nil, or_false] at hu
    rcases hu with rfl | rfl <;> rfl
   case c3 => unfold maxLen; omega
   case c4 => omega
   case c5 =>
    have := (HI0.out.1.lt (n0 + 2) ((by obtain ⟨_, _, _, _, h9⟩ := HI0.out.1; exact (h9 _).2 (.inl rfl))))
    simp;omega
   intro v' w9 hown' hgrow hnil hat;rw [← rowsE_snoc] at hown';have olt : ∀ k, (Value.slice va pre.length vc).ownBlock = some k → n0 + 2 + 1 ≤ k ∧ k < Wb.heap.size := fun k hk => OWN.out.lt k hk
   have lts := HI0.out.1.lt;have lb9 := lts (n0 + 2) ((HD.out _).2 (.inl rfl));have lm9 := lts n0 ((HD.out _).2 (.inr (.inl rfl)));have ks : ∀ k, k < n0 + 3 → k < Wb.heap.size → w9.heap[k]? = Wb.heap[k]? := fun k h1 h2 => (hgrow.block k (by simp; omega) (fun e => by have := olt k e.symm; omega)).trans (heap_alloc_old _ _ h2)
   have a1 := (ks _ (by omega) lb9).trans HB1.out.1;have a2 := (ks _ (by omega) lm9).trans HB1.out.2;obtain ⟨d1, d1f⟩ := box1 a1;have d2 := (box1 a2).1;obtain ⟨va', vc', rfl, _, _⟩ := own_shape7 hown'
   have FR : Hid (∀ wf, w9.setCell ⟨n0 + 2, 0, none⟩ (.slice va' (pre.length + 1) vc') = wf → Own1 C1 Wb (fun k => k = n0 + 2 ∨ k = n0 ∨ (Value.slice va' (pre.length + 1) vc').ownBlock = some k) wf ∧ ScI (n0 + 2) n0 most (pre ++ [x]) (fun k => k = n0 + 2 ∨ k = n0 ∨ (Value.slice va' (pre.length + 1) vc').ownBlock = some k) wf) := Hd (fun wf hwf => by
    have og := hown'.lt;refine ⟨⟨?_, fun k hk => ?_⟩, ?_⟩
    ·rw [← hwf]
     exact ((((Frm.refl _ Wb).alloc _).grown hgrow fun k hk => .inl ((HD.out k).2 (.inr (.inr hk)))).setCell _ _ (.inl ((HD.out _).2 (.inl rfl))))
    ·rcases hk with rfl | rfl | hk
     ·exact .inl ((HD.out _).2 (.inl rfl))
     ·exact .inl ((HD.out _).2 (.inr (.inl rfl)))
     ·rcases hat with h1 | h1
      ·exact .inl ((HD.out k).2 (.inr (.inr (h1 ▸ hk))))
      ·rw [h1] at hk; injection hk with hk; exact .inr (by omega)
    ·refine ⟨.slice va' (pre.length + 1) vc', ?_, ?_, ?_, fun k => Iff.rfl⟩
     ·rw [← hwf, heap_setCell_same _ _ 0 _ _ _ a1]; rfl
     ·rw [← hwf, heap_setCell_other _ _ _ _ (by show n0 ≠ n0 + 2; omega)]; exact a2
     ·rw [← hwf, List.length_append]
      exact ownsRow_setCell_other hown' (fun e => by have := (og _ e).1; simp at this) _)
   by_cases hbr : ((pre.length + 1 : Nat) : Int) = most
   ·have hbr2 : (pre.length : Int) + 1 = most := by omega
    have hbr3 : ((pre.length : Int) + 1 == most) = true := beq_iff_eq.2 hbr2;have HBR := Hd hbr;clear hown' hgrow hnil hat olt ks a1 a2 lts lb9 lm9 HB1 OWN HD hi hz0 hz1 hz2 hz3 hv1 hv2 hbr;gi_wp2;obtain ⟨f1, f2⟩ := FR.out _ rfl;exact ⟨_, f1, rfl, f2, by rw [List.length_append]; exact HBR.out⟩
   ·have hbr2 : ¬ (pre.length : Int) + 1 = most := by omega
    have hbr3 : ((pre.length : Int) + 1 == most) = false := beq_eq_false_iff_ne.2 hbr2;have HBR := Hd hbr;clear hown' hgrow hnil hat olt ks a1 a2 lts lb9 lm9 HB1 OWN HD hi hz0 hz1 hz2 hz3 hv1 hv2 hbr;gi_wp2;obtain ⟨f1, f2⟩ := FR.out _ rfl;refine ⟨_, f1, f2, ?_⟩;have := HLT.out;rw [List.length_append];simp only [List.length_cons, List.length_nil];omega
  ·intro D C' W hD hI hV hfr hC' hnD hdef
   obtain ⟨⟨v, e1, e2, hown, hCC⟩, hlm⟩ := hI;have HE := Hd (HFIN.out D v _ C' W · hD ⟨v, e1, e2, hown, hCC⟩ hCC hown hV hfr hnD)
   have z2 : W.cell? ⟨n0 + 1, 2, none⟩ = some (.int .i64 0) := by
    obtain ⟨r', _, _, FD, FS, hti, _⟩ := hV;exact (vis_cells hti.v).2.2.1
   have c1 := (box1 e1).1;have HM : Hid (Marks W [D]) := Hd ((Marks.nil W).cons (by simp) hdef);have HT : Hid ((scanE key (entsM F0)).take most.toNat = scanE key (entsM F0)) := Hd (List.take_of_length_le (by omega));clear hown hV hfr hdef hit;go_wp2_with fail;refine leavesM [D] W HM.out fun W' hm => ⟨_, results_tmp2 (fn := Tryz.f19) rfl _ _ _, ?_⟩
   refine ⟨v, rfl, ?_⟩;rw [HT.out, HN.out];exact HE.out W' hm
  ·rintro D c pre C' W hD hpre ⟨rfl, hI, hlm⟩ hV hfr hC' hnD hdef
   obtain ⟨v, e1, e2, hown, hCC⟩ := hI;have HE := Hd (HFIN.out D v _ C' W · hD ⟨v, e1, e2, hown, hCC⟩ hCC hown hV hfr hnD)
   have z2 : W.cell? ⟨n0 + 1, 2, none⟩ = some (.int .i64 0) := by
    obtain ⟨r', _, _, FD, FS, hti, _⟩ := hV;exact (vis_cells hti.v).2.2.1
   have c1 := (box1 e1).1;have HM : Hid (Marks W [D]) := Hd ((Marks.nil W).cons (by simp) hdef);have HT : Hid ((scanE key (entsM F0)).take most.toNat = pre) := Hd (by rw [show most.toNat = pre.length by omega]; exact (List.prefix_iff_eq_take.1 hpre).symm);clear hown hV hfr hdef hit;refine wpIn_wide.2 ?_;go_wp2_with fail;refine leavesM [D] W HM.out fun W' hm => ⟨_, results_tmp2 (fn := Tryz.f19) rfl _ _ _, ?_⟩
   refine ⟨v, rfl, ?_⟩;rw [HT.out, HN.out];exact HE.out W' hm
theorem IsT.lowN {dk : DkS} {h H0 : Nat} {root : Int} {F : List Mk} {P : List Int} (ht : IsT (Rn dk) h root F P) (hE : (entsM F).length < 2 ^ (H0 + 1)) : h ≤ H0 := by
 have := (IsT_count ht).2;apply Decidable.byContradiction;intro hx;have h10 : 2 ^ (H0 + 1) ≤ 2 ^ h := Nat.pow_le_pow_right (by decide) (by omega);omega
theorem tput_gen (w : World) (d s : Nat) (dk : DkS) (st : ShS) (F : Nat → Prop) (h : SD w d s dk st F) (G : Good dk st) (root : Int) (E : List Ent) (ht : TreeI dk st root E) (H0 : Nat) (h9 : H0 ≤ 8) (hE : E.length < 2 ^ (H0 + 1)) (hroom : Room dk st (2 * H0 + 3)) (key : Int) (hk : 0 ≤ key ∧ key ≤ 18446744073709551615) (val : ByteArray) (hv : val.size ≤ 40) :
  Calls Tryz.prog 16 #[.pointer (some ⟨s, 0, none⟩), .int .i64 root, .int .u64 key, .string val] w (PutR w d s dk st F (insE key val E)) := by
 have VP : Hid (Calls Tryz.prog 45 #[.pointer (some ⟨w.heap.size, 0, none⟩), .int .i64 root, .int .u64 key, .string val] (w.alloc (visO s 0)) fun e w' => ∃ q, e = .returned (.tuple #[.int .i64 q, .int .i64 0]) ∧ PutR w d s dk st F (insE key val E) (.returned (.tuple #[.int .i64 q, .int .i64 0])) w') := Hd (by
  by_cases h0 : root = 0
  ·obtain ⟨rfl, hl⟩ := ht.root0 h0
   subst h0;refine (vput_nil (w.alloc (visO s 0)) d s w.heap.size dk st 0 _ h.visit G (hroom.le (by omega)) hl key hk val hv).mono ?_;rintro e w' ⟨q, dk', st', r', rfl, hp, hT, hto, _⟩;exact ⟨q, rfl, q, dk', st', rfl, TSPost.ends (dk := dk) (st := st) hp, hT, hto⟩
  ·have hlt : E.length ≤ 600 := by
    have : 2 ^ (H0 + 1) ≤ 2 ^ 9 := Nat.pow_le_pow_right (by decide) (by omega);omega
   obtain ⟨hh, F0, P0, hi, hs, rfl, hl, _⟩ := ht.rootN h0 hlt;have hh0 := hi.lowN hE;refine (vput_some (w.alloc (visO s 0)) d s w.heap.size dk st 0 _ h.visit G root h0 hh F0 P0 hi hs hl (by omega) (by omega) (hroom.le (by omega)) key hk val hv).mono ?_;rintro e w' ⟨q, dk', st', r', rfl, hp, hT, hto, _⟩;exact ⟨q, rfl, q, dk', st', rfl, TSPost.ends (dk := dk) (st := st) hp, hT, hto⟩)
 have hv1 : ¬ (40 : Int) < (val.size : Int) := by omega
 unfold visO at VP;clear h G ht hE hk hv hroom h9;go_enter Tryz.func16, Tryz.ntmps16;go_wp2_with fail;refine VP.out.mono ?_;rintro e w1 ⟨q, rfl, hp⟩;have FIN := Hd hp;clear hp;go_wp2_with fail;go_ret2;exact FIN.out
theorem tdel_gen (w : World) (d s : Nat) (dk : DkS) (st : ShS) (F : Nat → Prop) (h : SD w d s dk st F) (G : Good dk st) (root : Int) (E : List Ent) (ht : TreeI dk st root E) (H0 : Nat) (h9 : H0 ≤ 8) (hE : E.length < 2 ^ (H0 + 1)) (hroom : Room dk st (2 * H0 + 3)) (key : Int) (hk : 0 ≤ key ∧ key ≤ 18446744073709551615) :
  Calls Tryz.prog 18 #[.pointer (some ⟨s, 0, none⟩), .int .i64 root, .int .u64 key] w (DelT w d s dk st F key E) := by
 by_cases h0 : root = 0
 ·obtain ⟨rfl, hl⟩ := ht.root0 h0
  subst h0;refine (tdel_nil w s key).mono fun e w' hq => ⟨0, dk, st, hq.1, ⟨F, h.below hq.2, Frm.of_below hq.2, fun k hk => .inl hk⟩, .inl ⟨rfl, rfl, hl⟩, To.refl G⟩
 ·have hlt : E.length ≤ 600 := by
   have : 2 ^ (H0 + 1) ≤ 2 ^ 9 := Nat.pow_le_pow_right (by decide) (by omega);omega
  obtain ⟨hh, F0, P0, hi, hs, rfl, hl, _⟩ := ht.rootN h0 hlt;have hh0 := hi.lowN hE;refine (tdel_some w d s dk st F h G root h0 hh F0 P0 hi hs hl (by omega) (hroom.le (by omega)) key hk).mono ?_;rintro e w' ⟨q, dk', st', q1, q2, q3, q4⟩;refine ⟨q, dk', st', q1, q2, ?_, q4⟩
  cases hb : getB key (entsM F0) with
  | true => rw [hb] at q3; exact q3
  | false => rw [hb] at q3; rw [delE_off _ _ hb]; exact q3
def TrF (w : World) (d s n : Nat) (root : Int) (E : List Ent) (F : Nat → Prop) : Prop := ∃ dk st, SD w d s dk st F ∧ Good dk st ∧ TreeI dk st root E ∧ dk.S.length = n ∧ st.h = fmtH
def TrR (w0 : World) (R : List Nat) (w : World) (d s n : Nat) (root : Int) (E : List Ent) : Prop :=
 Below w0.heap.size w0 w ∧ ∃ F, TrF w d s n root E F ∧ (∀ k, F k → w0.heap.size ≤ k) ∧ ∀ k ∈ R, k < w.heap.size ∧ ¬ F k
def KeptL (R : List Nat) (w w' : World) : Prop := ∀ k ∈ R, w'.heap[k]? = w.heap[k]?
theorem KeptL.trans {R : List Nat} {a b c : World} (h : KeptL R a b) (k : KeptL R b c) : KeptL R a c := fun i hi => (k i hi).trans (h i hi)
theorem TrF.frm {w w' : World} {d s n : Nat} {root : Int} {E : List Ent} {F G : Nat → Prop} (h : TrF w d s n root E F) (hf : Frm G w w') (hd : ∀ k, F k → ¬ G k) : TrF w' d s n root E F := by
 obtain ⟨dk, st, h1, h2⟩ := h;exact ⟨dk, st, h1.frm hf hd, h2⟩
theorem TrF.lt {w : World} {d s n : Nat} {root : Int} {E : List Ent} {F : Nat → Prop} (h : TrF w d s n root E F) (k : Nat) (hk : F k) : k < w.heap.size := by
 obtain ⟨dk, st, h1, _⟩ := h;exact h1.lt k hk
theorem TrR.size {w0 : World} {R : List Nat} {w : World} {d s n : Nat} {root : Int} {E : List Ent} (h : TrR w0 R w d s n root E) : Below w0.heap.size w0 w := h.1
theorem TrR.below {w0 : World} {R : List Nat} {w w' : World} {d s n : Nat} {root : Int} {E : List Ent} (h : TrR w0 R w d s n root E) (hb : Below w.heap.size w w') : TrR w0 R w' d s n root E := by
 obtain ⟨h1, F, h2, h3, h4⟩ := h;exact ⟨h1.trans (hb.mono h1.size), F, h2.frm (G := fun _ => False) (Frm.of_below hb) (fun _ _ h => h), h3, fun k hk => ⟨Nat.lt_of_lt_of_le (h4 k hk).1 hb.size, (h4 k hk).2⟩⟩
theorem TrR.kept {w0 : World} {R : List Nat} {w w' : World} {d s n : Nat} {root : Int} {E : List Ent} (h : TrR w0 R w d s n root E) (hb : Below w.heap.size w w') : KeptL R w w' := by
 obtain ⟨h1, F, h2, h3, h4⟩ := h;exact fun k hk => hb.block k (h4 k hk).1
theorem TrR.turn {w0 : World} {R : List Nat} {w w' : World} {d s n : Nat} {root : Int} {E : List Ent} (h : TrR w0 R w d s n root E) {k : Nat} (hk : k ∈ R) (h0 : w0.heap.size ≤ k) (hf : Frm (fun x => x = k) w w') : TrR w0 R w' d s n root E := by
 obtain ⟨h1, F, h2, h3, h4⟩ := h;refine ⟨h1.trans (hf.below (fun i hi => by subst hi; exact h0) h1.size), F, h2.frm hf (fun i hi e => (h4 k hk).2 (e ▸ hi)), h3, fun i hi => ⟨Nat.lt_of_lt_of_le (h4 i hi).1 hf.size, (h4 i hi).2⟩⟩
theorem TrR.more {w0 : World} {R : List Nat} {w w' : World} {d s n : Nat} {root : Int} {E : List Ent} (h : TrR w0 R w d s n root E) (hb : Below w.heap.size w w') (k : Nat) (h1 : w.heap.size ≤ k) (h2 : k < w'.heap.size) : TrR w0 (k :: R) w' d s n root E := by
 obtain ⟨a1, F, a2, a3, a4⟩ := h.below hb;obtain ⟨_, F', b2, b3, b4⟩ := h;refine ⟨a1, F', b2.frm (G := fun _ => False) (Frm.of_below hb) (fun _ _ h => h), b3, fun i hi => ?_⟩
 rcases List.mem_cons.1 hi with rfl | hi
 ·exact ⟨h2, fun hx => by have := b2.lt _ hx; omega⟩
 ·exact ⟨(a4 i hi).1, (b4 i hi).2⟩
theorem TrR.sub {w0 : World} {R R' : List Nat} {w : World} {d s n : Nat} {root : Int} {E : List Ent} (h : TrR w0 R w d s n root E) (hs : ∀ k ∈ R', k ∈ R) : TrR w0 R' w d s n root E := by
 obtain ⟨h1, F, h2, h3, h4⟩ := h;exact ⟨h1, F, h2, h3, fun k hk => h4 k (hs k hk)⟩
theorem TrR.lt {w0 : World} {R : List Nat} {w : World} {d s n : Nat} {root : Int} {E : List Ent} (h : TrR w0 R w d s n root E) (k : Nat) (hk : k ∈ R) : k < w.heap.size := by
 obtain ⟨h1, F, h2, h3, h4⟩ := h;exact (h4 k hk).1
theorem TrR.post {w0 : World} {R : List Nat} {w w' : World} {d s n : Nat} {q : Int} {E : List Ent} {F : Nat → Prop} {dk dk' : DkS} {st st' : ShS} (hb : Below w0.heap.size w0 w) (hF : ∀ k, F k → w0.heap.size ≤ k) (hR : ∀ k ∈ R, k < w.heap.size ∧ ¬ F k) (hp : SDPost w d s dk' st' F w') (hT : TreeI dk' st' q E) (hto : To dk st dk' st') (hn : dk.S.length = n) (hh : st.h = fmtH) : TrR w0 R w' d s n q E ∧ KeptL R w w' := by
 obtain ⟨F', h1, h2, h3⟩ := hp;refine ⟨⟨hb.trans (h2.below hF hb.size), F', ⟨dk', st', h1, hto.g, hT, hto.len.trans hn, hto.h.trans hh⟩, fun k hk => (h3 k hk).elim (hF k) (fun hx => Nat.le_trans hb.size hx), fun k hk => ⟨Nat.lt_of_lt_of_le (hR k hk).1 h2.size, fun hx => ?_⟩⟩, fun k hk => h2.block k (hR k hk).1 (hR k hk).2⟩
 rcases h3 k hx with h4 | h4
 ·exact (hR k hk).2 h4
 ·have := (hR k hk).1; omega
theorem room_R {dk : DkS} {st : ShS} {root : Int} {E : List Ent} (ht : TreeI dk st root E) (G : Good dk st) (hh : st.h = fmtH) (H0 : Nat) (hn : 2 * E.length + 2 * H0 + 5 ≤ dk.S.length) : Room dk st (2 * H0 + 3) := by
 have hu : usedN st dk.S.length = 0 := used_none st hh _ _;exact ht.room G _ (by omega)
theorem put_R {w0 : World} {R : List Nat} {w : World} {d s n : Nat} {root : Int} {E : List Ent} (h : TrR w0 R w d s n root E) (H0 : Nat) (h9 : H0 ≤ 8) (hE : E.length < 2 ^ (H0 + 1)) (hn : 2 * E.length + 2 * H0 + 5 ≤ n) (key : Int) (hk : 0 ≤ key ∧ key ≤ 18446744073709551615) (val : ByteArray) (hv : val.size ≤ 40) :
  Calls Tryz.prog 16 #[.pointer (some ⟨s, 0, none⟩), .int .i64 root, .int .u64 key, .string val] w fun e w' => ∃ q, e = .returned (.tuple #[.int .i64 q, .int .i64 0]) ∧ TrR w0 R w' d s n q (insE key val E) ∧ KeptL R w w' := by
 obtain ⟨hb, F, ⟨dk, st, h1, G, ht, hl, hh⟩, hF, hR⟩ := h;refine (tput_gen w d s dk st F h1 G root E ht H0 h9 hE (room_R ht G hh H0 (by omega)) key hk val hv).mono ?_;rintro e w' ⟨q, dk', st', rfl, hp, hT, hto⟩;exact ⟨q, rfl, TrR.post hb hF hR hp hT hto hl hh⟩
theorem del_R {w0 : World} {R : List Nat} {w : World} {d s n : Nat} {root : Int} {E : List Ent} (h : TrR w0 R w d s n root E) (H0 : Nat) (h9 : H0 ≤ 8) (hE : E.length < 2 ^ (H0 + 1)) (hn : 2 * E.length + 2 * H0 + 5 ≤ n) (key : Int) (hk : 0 ≤ key ∧ key ≤ 18446744073709551615) :
  Calls Tryz.prog 18 #[.pointer (some ⟨s, 0, none⟩), .int .i64 root, .int .u64 key] w fun e w' => ∃ q, e = .returned (.tuple #[.int .i64 q, .bool (getB key E), .int .i64 0]) ∧ TrR w0 R w' d s n q (delE key E) ∧ KeptL R w w' := by
 obtain ⟨hb, F, ⟨dk, st, h1, G, ht, hl, hh⟩, hF, hR⟩ := h;refine (tdel_gen w d s dk st F h1 G root E ht H0 h9 hE (room_R ht G hh H0 (by omega)) key hk).mono ?_;rintro e w' ⟨q, dk', st', rfl, hp, hT, hto⟩;exact ⟨q, rfl, TrR.post hb hF hR hp hT hto hl hh⟩
theorem get_R {w0 : World} {R : List Nat} {w : World} {d s n : Nat} {root : Int} {E : List Ent} (h : TrR w0 R w d s n root E) (hE : E.length ≤ 600) (key : Int) (hk : 0 ≤ key ∧ key ≤ 18446744073709551615) :
  Calls Tryz.prog 22 #[.pointer (some ⟨s, 0, none⟩), .int .i64 root, .int .u64 key] w fun e w' => e = .returned (.tuple #[.string (getV key E), .bool (getB key E), .int .i64 0]) ∧ Below w.heap.size w w' := by
 obtain ⟨hb, F, ⟨dk, st, h1, G, ht, hl, hh⟩, hF, hR⟩ := h;exact tget_is w d s dk st F h1 G root E ht.reads hE key hk
theorem getNil_R {w0 : World} {R : List Nat} {w : World} {d s n : Nat} {root : Int} {E : List Ent} (h : TrR w0 R w d s n root E) (key : Int) (hk : 0 ≤ key ∧ key ≤ 18446744073709551615) :
  Calls Tryz.prog 22 #[.pointer (some ⟨s, 0, none⟩), .int .i64 0, .int .u64 key] w fun e w' => e = .returned (.tuple #[.string ⟨#[]⟩, .bool false, .int .i64 0]) ∧ Below w.heap.size w w' := by
 obtain ⟨hb, F, ⟨dk, st, h1, G, ht, hl, hh⟩, hF, hR⟩ := h;exact tget_is w d s dk st F h1 G 0 [] (.inl ⟨rfl, rfl⟩) (by simp) key hk
theorem fresh_count {st : ShS} {P : List Int} (hl : LiveL st P) (hh : st.h = fmtH) (hf : st.fresh.Nodup) : st.fresh.length = P.length := by
 have hno : ∀ x, hasB st.h.used x = false := fun x => by rw [hh]; exact fmt_used x
 refine Nat.le_antisymm (subset_len _ _ hf fun x hx => (hl.2 x).2 (.inl hx)) (subset_len _ _ hl.1 fun x hx => ?_)
 rcases (hl.2 x).1 hx with h | h
 ·exact h
 ·rw [hno x] at h; exact absurd h.1 (by decide)
theorem root_nil {w0 : World} {R : List Nat} {w : World} {d s n : Nat} {root : Int} {E : List Ent} (h : TrR w0 R w d s n root E) (hE : E = [] := by rfl) : root = 0 := by
 subst hE;obtain ⟨hb, F, ⟨dk, st, h1, G, ht, hl, hh⟩, hF, hR⟩ := h
 rcases ht with ⟨h1, _⟩ | ⟨hh, F, P, hi, _, he, _⟩
 ·exact h1
 ·have := (IsT_count hi).2
  rw [he] at this;have h2 : 0 < 2 ^ hh := Nat.pow_pos (by decide);simp at this
attribute [local go_sem] Oper.semAt_some
def rowP (L : List Int) : List Value := L.map (Value.int .i64)
theorem info_int11 : ∃ i z, Tryz.prog.info? 3 = some i ∧ i.zero = some z ∧ i.size = 1 ∧ i.bytes = 8 ∧ z.cells.size = 1 := by
 have h : (Tryz.prog.info? 3).bind (fun i => i.zero.map fun z => (i.size, i.bytes, z.cells.size)) = some (1, 8, 1) := by kernel_rfl
 cases hq : Tryz.prog.info? 3 with
 | none => rw [hq] at h; cases h
 | some i =>
  rw [hq] at h
  cases hz : i.zero with
  | none => simp [hz] at h
  | some z => simp [hz] at h; exact ⟨i, z, rfl, hz, h.1, h.2.1, h.2.2⟩
def PsI (lb : Nat) (pre : List Int) (C : Nat → Prop) (W : World) : Prop :=
 ∃ v, W.heap[lb]? = some (.cells #[v] 22) ∧ W.ownsRow (lb + 1) 3 1 v pre.length (rowP pre) ∧ ∀ k, C k ↔ k = lb ∨ v.ownBlock = some k
theorem PsI.on {lb : Nat} {pre : List Int} {C : Nat → Prop} {A B : World} (h : PsI lb pre C A) (ho : OnC C A B) : PsI lb pre C B := by
 obtain ⟨v, h1, h3, h4⟩ := h;have lt : ∀ {k : Nat} {o : Obj}, A.heap[k]? = some o → k < A.heap.size := fun h => (Array.getElem?_eq_some_iff.1 h).1
 refine ⟨v, (ho.block _ (lt h1) ((h4 _).2 (.inl rfl))).trans h1, ⟨h3.1, ?_⟩, h4⟩
 rcases h3.2 with hx | ⟨g, cap, cur, hv, hbg, hh, r⟩
 ·exact .inl hx
 ·exact .inr ⟨g, cap, cur, hv, hbg, (ho.block g (lt hh) ((h4 g).2 (.inr (by rw [hv]; rfl)))).trans hh, r⟩
theorem PsI.lt {lb : Nat} {pre : List Int} {C : Nat → Prop} {A : World} (h : PsI lb pre C A) (k : Nat) (hk : C k) : k < A.heap.size := by
 obtain ⟨v, h1, h3, h4⟩ := h
 rcases (h4 k).1 hk with rfl | h5
 ·exact (Array.getElem?_eq_some_iff.1 h1).1
 ·exact (h3.lt k h5).2
theorem pages_is (w : World) (d s : Nat) (dk : DkS) (st : ShS) (F : Nat → Prop) (h : SD w d s dk st F) (G : Good dk st) (root : Int) (E : List Ent) (ht : TreeI dk st root E) (hE : E.length ≤ 600) :
  Calls Tryz.prog 20 #[.pointer (some ⟨s, 0, none⟩), .int .i64 root] w fun e w' => ∃ v P, e = .returned (.tuple #[v, .int .i64 0]) ∧ LiveL st P ∧ w'.ownsRow w.heap.size 3 1 v P.length (rowP P) ∧ SD w' d s dk st F ∧ Frm F w w' := by
 by_cases hz : root = 0
 ·have hL : LiveL st [] := (ht.root0 hz).2
  have FIN : Hid (∀ w', Below w.heap.size w w' → w'.ownsRow w.heap.size 3 1 (.slice none 0 0) 0 [] ∧ SD w' d s dk st F ∧ Frm F w w') := Hd (fun w' hb => ⟨World.ownsRow_nil _ _ _ _, h.below hb, Frm.of_below hb⟩);have hr : (root == 0) = true := by rw [hz]; rfl
  have HL := Hd hL;clear h G ht hz hL;go_enter Tryz.func20, Tryz.ntmps20;go_wp2_with fail;go_ret2;exact ⟨_, [], rfl, HL.out, FIN.out _ Br⟩
 ·rcases ht with ⟨rfl, rfl, _⟩ | ⟨hh, F0, P0, hi, hs, rfl, hl⟩
  ·exact absurd rfl hz
  have h9 := hi.low hE;have hP : P0.length ≤ 640 := few_of hl.1 fun x hx => hl.rng G hx
  have h0' : (root == 0) = false := beq_eq_false_iff_ne.2 hz;have hu := G.su;have HLV := Hd hl;obtain ⟨n0, hn0⟩ : ∃ n0, w.heap.size = n0 := ⟨_, rfl⟩
  obtain ⟨x1, hx1⟩ : ∃ x1, w.alloc (visO s 0) = x1 := ⟨_, rfl⟩
  have b1 := below_made w (visO s 0);have T1 := h.visit;have z1 : (w.alloc (visO s 0)).heap.size = n0 + 1 := by simp [hn0]
  rw [hx1, hn0] at b1 T1;rw [hx1] at z1;obtain ⟨x2, hx2⟩ : ∃ x2, x1.alloc (.cells #[.slice none 0 0] 22) = x2 := ⟨_, rfl⟩
  have b2 := below_made x1 (.cells #[.slice none 0 0] 22);have l2 := heap_alloc_new x1 (.cells #[.slice none 0 0] 22);have z2 : (x1.alloc (.cells #[.slice none 0 0] 22)).heap.size = n0 + 2 := by simp [z1]
  rw [hx2, z1] at b2 l2;rw [hx2] at z2;have T2 := T1.below (by rw [z1]; exact b2);have bw2 : Below n0 w x2 := b1.trans (b2.mono (by omega));have FI := Hd (below_is x2 n0 root 1);have hx1' : w.alloc (.cells #[.pointer (some ⟨s, 0, none⟩), .int .i64 0, .int .i64 0] 88) = x1 := hx1;clear hx1;refine (callsIn_wide (n := 0)).1 (callsIn_of_wp_marks (F := Fence.wide) (n := 0) Tryz.func20 rfl trivial (wpIn_wide.2 ?_) rfl)
  simp only [Tryz.ntmps20, List.size_toArray, List.length_cons, List.length_nil, Nat.reduceAdd, Nat.reduceSub, Array.replicate_succ, Array.replicate_zero, List.push_toArray, List.append_toArray, List.nil_append, List.cons_append];have HL := Hd l2;have HT2 := Hd T2;have HB := Hd (And.intro bw2 z2);have HH := Hd h;have HI := Hd (And.intro hi (And.intro hs (And.intro h9 hP)));have HX := Hd (And.intro hx1' hx2);have HN := Hd hn0;clear T1 T2 b1 b2 l2 bw2 h hi hs hl hz hE G z1 hx1' hx2 hn0 h9 hP;go_wp2_with fail;rw [HX.out.1, HX.out.2, HN.out];refine FI.out.mono ?_;rintro e w6 ⟨rfl, hbx, b6, s6⟩
  rw [z2] at hbx b6 s6 ⊢;simp only [Nat.add_assoc, Nat.reduceAdd] at hbx s6 ⊢;clear z2 FI;go_wp2_with fail;have hF0 : ∀ k, F k → k < n0 := fun k hk => by rw [← HN.out]; exact HH.out.lt k hk
  have hT6 := HT2.out.below (by rw [HB.out.2]; exact b6);have hl6 : w6.heap[n0 + 1]? = some (.cells #[.slice none 0 0] 22) := (b6.block _ (by omega)).trans HL.out;have hb6 : Below n0 w w6 := HB.out.1.trans (b6.mono (by omega))
  have hit := below_iter hh w6 d s n0 dk st 0 (fun k => F k ∨ k = n0) hT6 hu root F0 P0 HI.out.1 1 (by omega) (by have := HI.out.2.2.1; omega) (by have := HI.out.2.2.2; omega) (n0 + 2) (n0 + 3) (n0 + 4) hbx ⟨fun h => by rcases h with h | h; (have := hF0 _ h; omega); omega, fun h => by rcases h with h | h; (have := hF0 _ h; omega); omega, fun h => by rcases h with h | h; (have := hF0 _ h; omega); omega⟩
  have hGn : ∀ k, FP (fun k => F k ∨ k = n0) (n0 + 2) (n0 + 3) (n0 + 4) k → F k ∨ k = n0 ∨ n0 + 2 ≤ k := fun k hk => by
   rcases hk with (hk | hk) | hk | hk | hk
   ·exact .inl hk
   ·exact .inr (.inl hk)
   all_goals exact .inr (.inr (by omega))
  have FIN : ∀ (D : Nat) (v : Value) (L : List Int) (C' : Nat → Prop) (W W' : World), w6.heap.size ≤ D → (∀ k, C' k ↔ k = n0 + 1 ∨ v.ownBlock = some k) → W.ownsRow (n0 + 1 + 1) 3 1 v L.length (rowP L) → VP d s n0 dk st 0 (fun k => F k ∨ k = n0) P0.length W → Frm (fun k => (k = n0 + 1) ∨ FP (fun k => F k ∨ k = n0) (n0 + 2) (n0 + 3) (n0 + 4) k) w6 W → ¬ C' D → Frm (fun k => k ∈ [D]) W W' → W'.ownsRow n0 3 1 v L.length (rowP L) ∧ SD W' d s dk st F ∧ Frm F w W' := by
   intro D v L C' W W' hD hC hown hV hfr hnD hm;refine ⟨?_, ?_⟩
   ·have h1 := own_frmZ hown hm fun k hk hd => by
     rw [List.mem_singleton] at hd;exact hnD ((hC D).2 (.inr (hd ▸ hk)))
    refine ⟨h1.1, ?_⟩
    rcases h1.2 with hx | ⟨g, cap, cur, hv, hbg, r⟩
    ·exact .inl hx
    ·exact .inr ⟨g, cap, cur, hv, by omega, r⟩
   ·obtain ⟨r', _, _, FD, FS, hti, he⟩ := hV
    have hDn : n0 + 5 ≤ D := by omega
    have hSD : SD W d s dk st F := ⟨FD, FS, hti.ds, fun k => ⟨fun hk => ?_, fun hk => ?_⟩⟩
    ·refine ⟨hSD.frm hm fun k hk hd => ?_, ?_⟩
     ·rw [List.mem_singleton] at hd
      have := hF0 k hk;omega
     ·refine ((Frm.of_below (by rw [HN.out]; exact hb6)).trans hfr fun k hk => ?_).trans hm fun k hk => ?_
      ·rw [HN.out]
       rcases hk with hk | hk
       ·exact .inr (by omega)
       ·rcases hGn k hk with h1 | h1 | h1
        ·exact .inl h1
        ·exact .inr (by omega)
        ·exact .inr (by omega)
      ·rw [List.mem_singleton] at hk
       rw [HN.out];exact .inr (by omega)
    ·rcases (he k).1 (.inl hk) with h1 | h1 | h1
     ·exact .inl h1
     ·exact .inr h1
     ·have := hF0 k hk; omega
    ·rcases (he k).2 (hk.imp id .inl) with h1 | h1
     ·exact h1
     ·rw [h1] at hk
      rcases hk with hk | hk
      ·exact absurd hk hti.gd
      ·exact absurd hk hti.gs
  have HFIN := Hd FIN;clear FIN;refine (wpIn_wide (n := 0)).1 (rangeK rfl (enters_of Tryz.func91 (by kernel_rfl) rfl) hit (fun Wz lz o hz hv => ?_) (fun k hk => ?_) (by intro _; rfl) (fun k => k = n0 + 1) (fun k hk hg => ?_) (fun pre C W => PsI (n0 + 1) pre C W) (fun c pre C W => False) (fun s D A B hh ho => hh.on ho) (fun c s D A B hh ho => hh) (fun s D A hh => hh.lt) (fun c s D A hh => hh.elim) ⟨.slice none 0 0, hl6, World.ownsRow_nil _ _ _ _, fun k => by simp [Value.ownBlock]⟩ ?_ ?_ ?_)
  ·obtain ⟨r', g1, g2, g3⟩ := hv
   exact ⟨r', g1, g2, g3.frm (putObj_frm Wz lz o) fun k hk e => by have := hT6.lt k hk; omega⟩
  ·rcases hGn k hk with h1 | h1 | h1
   ·have := hF0 k h1; omega
   ·omega
   ·rcases hk with hk | hk | hk | hk
    ·exact hT6.lt k hk
    all_goals omega
  ·subst hk
   rcases hGn _ hg with h1 | h1 | h1
   ·have := hF0 _ h1; omega
   ·omega
   ·omega
  ·intro l pre x C1 Wz hpre hI hD hz hnl hll
   unfold encP;gi_wp2;refine ⟨Br, fun Wb hfb hIb => ?_⟩;have HI0 := Hd hIb;obtain ⟨v, e1, hown, hDi⟩ := hIb;obtain ⟨cy, cyf⟩ := box1 e1;obtain ⟨va, vc, rfl, hv1, hv2⟩ := own_shape7 hown;obtain ⟨i, z, hi, hz0, hz1, hz2, hz3⟩ := info_int11;have OWN := Hd hown;have HD := Hd hDi;have HB1 := Hd e1
   have hlen : pre.length ≤ 640 := by
    have h1 := hpre.length_le;simp at h1;have := HI.out.2.2.2;omega
   clear hown hDi e1 hfb
   gi_wp2_with (gi_at_builtin; refine wpListIn_append_own_at _ rfl (.tmp 16) (.tmp 18) 22 rfl (n0 + 1 + 1) 3 i z 1 8 Tryz.underlying22 hi hz0 hz1 hz2 hz3 (by decide) _ _ _ rfl (OWN.out.alloc _) ⟨Wb.heap.size, 0, none⟩ 1 1 [.int .i64 x] rfl rfl ?c1 ?c2 ?c3 ?c4 ?c5 ?_)
   case c1 =>
    intro j u hj
    match j, hj with
    | 0, hj =>
     injection hj with hj;subst hj;exact cells1 (heap_alloc_new Wb _)
    | j + 1, hj => simp at hj
   case c2 =>
    intro u hu;simp only [List.mem_cons, List.not_mem_nil, or_false] at hu;subst hu
    rfl
   case c3 => unfold maxLen; omega
   case c4 => omega
   case c5 =>
    have := HI0.out.lt (n0 + 1) ((by obtain ⟨_, _, _, h9⟩ := HI0.out; exact (h9 _).2 (.inl rfl)));simp;omega
   intro v' w9 hown' hgrow hnil hat;rw [show rowP pre ++ [Value.int .i64 x] = rowP (pre ++ [x]) by simp [rowP]] at hown';have olt : ∀ k, (Value.slice va pre.length vc).ownBlock = some k → n0 + 1 + 1 ≤ k ∧ k < Wb.heap.size := fun k hk => OWN.out.lt k hk
   have lts := HI0.out.lt;have lb9 := lts (n0 + 1) ((HD.out _).2 (.inl rfl));have ks : ∀ k, k < n0 + 2 → k < Wb.heap.size → w9.heap[k]? = Wb.heap[k]? := fun k h1 h2 => (hgrow.block k (by simp; omega) (fun e => by have := olt k e.symm; omega)).trans (heap_alloc_old _ _ h2)
   have a1 := (ks _ (by omega) lb9).trans HB1.out;obtain ⟨d1, d1f⟩ := box1 a1;obtain ⟨va', vc', rfl, _, _⟩ := own_shape7 hown'
   have FR : Hid (∀ wf, w9.setCell ⟨n0 + 1, 0, none⟩ (.slice va' (pre.length + 1) vc') = wf → Own1 C1 Wb (fun k => k = n0 + 1 ∨ (Value.slice va' (pre.length + 1) vc').ownBlock = some k) wf ∧ PsI (n0 + 1) (pre ++ [x]) (fun k => k = n0 + 1 ∨ (Value.slice va' (pre.length + 1) vc').ownBlock = some k) wf) := Hd (fun wf hwf => by
    have og := hown'.lt;refine ⟨⟨?_, fun k hk => ?_⟩, ?_⟩
    ·rw [← hwf]
     exact ((((Frm.refl _ Wb).alloc _).grown hgrow fun k hk => .inl ((HD.out k).2 (.inr hk))).setCell _ _ (.inl ((HD.out _).2 (.inl rfl))))
    ·rcases hk with rfl | hk
     ·exact .inl ((HD.out _).2 (.inl rfl))
     ·rcases hat with h1 | h1
      ·exact .inl ((HD.out k).2 (.inr (h1 ▸ hk)))
      ·rw [h1] at hk; injection hk with hk; exact .inr (by omega)
    ·refine ⟨.slice va' (pre.length + 1) vc', ?_, ?_, fun k => Iff.rfl⟩
     ·rw [← hwf, heap_setCell_same _ _ 0 _ _ _ a1]; rfl
     ·rw [← hwf, List.length_append]
      exact ownsRow_setCell_other hown' (fun e => by have h : n0 + 1 + 1 ≤ n0 + 1 := (og _ e).1; omega) _)
   clear hown' hgrow hnil hat olt ks a1 lts lb9 HB1 OWN HD hi hz0 hz1 hz2 hz3 hv1 hv2;gi_wp2;obtain ⟨f1, f2⟩ := FR.out _ rfl;exact ⟨_, f1, f2⟩
  ·intro D C' W hD hI hV hfr hC' hnD hdef
   obtain ⟨v, e1, hown, hCC⟩ := hI;have HE := Hd (HFIN.out D v _ C' W · hD hCC hown hV hfr hnD)
   have z2 : W.cell? ⟨n0, 2, none⟩ = some (.int .i64 0) := by
    obtain ⟨r', _, _, FD, FS, hti, _⟩ := hV;exact (vis_cells hti.v).2.2.1
   have c1 := (box1 e1).1;have HM : Hid (Marks W [D]) := Hd ((Marks.nil W).cons (by simp) hdef);clear hown hV hfr hdef hit;go_wp2_with fail;refine leavesM [D] W HM.out fun W' hm => ⟨_, results_tmp2 (fn := Tryz.f20) rfl _ _ _, ?_⟩
   refine ⟨v, P0, rfl, HLV.out, ?_⟩;rw [HN.out];exact HE.out W' hm
  ·rintro D c pre C' W hD hpre hx
   exact hx.elim
def TrC (w0 : World) (R : List Nat) (w : World) (d s n : Nat) (root : Int) (E : List Ent) (c : Nat) : Prop :=
 Below w0.heap.size w0 w ∧ ∃ F, (∃ dk st, SD w d s dk st F ∧ Good dk st ∧ TreeI dk st root E ∧ dk.S.length = n ∧ st.h = fmtH ∧ st.fresh.length = c) ∧ (∀ k, F k → w0.heap.size ≤ k) ∧ ∀ k ∈ R, k < w.heap.size ∧ ¬ F k
theorem TrR.count {w0 : World} {R : List Nat} {w : World} {d s n : Nat} {root : Int} {E : List Ent} (h : TrR w0 R w d s n root E) : ∃ c, TrC w0 R w d s n root E c := by
 obtain ⟨hb, F, ⟨dk, st, h1, G, ht, hl, hh⟩, hF, hR⟩ := h;exact ⟨_, hb, F, ⟨dk, st, h1, G, ht, hl, hh, rfl⟩, hF, hR⟩
theorem TrC.tr {w0 : World} {R : List Nat} {w : World} {d s n : Nat} {root : Int} {E : List Ent} {c : Nat} (h : TrC w0 R w d s n root E c) : TrR w0 R w d s n root E := by
 obtain ⟨hb, F, ⟨dk, st, h1, G, ht, hl, hh, _⟩, hF, hR⟩ := h;exact ⟨hb, F, ⟨dk, st, h1, G, ht, hl, hh⟩, hF, hR⟩
theorem TrC.below {w0 : World} {R : List Nat} {w w' : World} {d s n : Nat} {root : Int} {E : List Ent} {c : Nat} (h : TrC w0 R w d s n root E c) (b : Below w.heap.size w w') : TrC w0 R w' d s n root E c := by
 obtain ⟨hb, F, ⟨dk, st, h1, G, ht, hl, hh, hc⟩, hF, hR⟩ := h;exact ⟨hb.trans (b.mono hb.size), F, ⟨dk, st, h1.below b, G, ht, hl, hh, hc⟩, hF, fun k hk => ⟨Nat.lt_of_lt_of_le (hR k hk).1 b.size, (hR k hk).2⟩⟩
theorem TrC.few {w0 : World} {R : List Nat} {w : World} {d s n : Nat} {root : Int} {E : List Ent} {c : Nat} (h : TrC w0 R w d s n root E c) : c ≤ 700 := by
 obtain ⟨hb, F, ⟨dk, st, ⟨FD, FS, h1, he⟩, G, ht, hl, hh, hc⟩, hF, hR⟩ := h;have := h1.sto.few;omega
theorem pages_C {w0 : World} {R : List Nat} {w : World} {d s n : Nat} {root : Int} {E : List Ent} {c : Nat} (h : TrC w0 R w d s n root E c) (hE : E.length ≤ 600) :
  Calls Tryz.prog 20 #[.pointer (some ⟨s, 0, none⟩), .int .i64 root] w fun e w' => ∃ a cap, e = .returned (.tuple #[.slice a c cap, .int .i64 0]) ∧ TrC w0 R w' d s n root E c ∧ KeptL R w w' := by
 obtain ⟨hb, F, ⟨dk, st, h1, G, ht, hl, hh, hc⟩, hF, hR⟩ := h;refine (pages_is w d s dk st F h1 G root E ht hE).mono ?_;rintro e w' ⟨v, P, rfl, hL, ho, hp, hf⟩;have hn : P.length = c := by rw [← hc]; exact (fresh_count hL hh G.fn).symm
 obtain ⟨a, cap, rfl, _, _⟩ := own_shape7 ho;rw [hn];exact ⟨a, cap, rfl, ⟨hb.trans (hf.below hF hb.size), F, ⟨dk, st, hp, G, ht, hl, hh, hc⟩, hF, fun k hk => ⟨Nat.lt_of_lt_of_le (hR k hk).1 hf.size, (hR k hk).2⟩⟩, fun k hk => hf.block k (hR k hk).1 (hR k hk).2⟩
theorem left_C {w0 : World} {R : List Nat} {w : World} {d s n : Nat} {root : Int} {E : List Ent} {c : Nat} (h : TrC w0 R w d s n root E c) :
  Calls Tryz.prog 21 #[.pointer (some ⟨s, 0, none⟩)] w fun e w' => e = .returned (.int .i64 ((n : Int) - 2 - (c : Int))) ∧ Below w.heap.size w w' := by
 obtain ⟨hb, F, ⟨dk, st, ⟨FD, FS, h1, he⟩, G, ht, hl, hh, hc⟩, hF, hR⟩ := h;refine (left_is w s d dk st FD FS h1.dk h1.sto).mono ?_;rintro e w' ⟨rfl, hw⟩;refine ⟨?_, hw⟩;unfold leftN;rw [hh, fmt_cnt, hl, hc];simp
theorem sealB_iff7 (k : Int) (t : ByteArray) : sealB k t = true ↔ 1 ≤ k ∧ k ≤ 15 ∧ t.size ≤ 240 := by
 unfold sealB;rw [Bool.and_eq_true, kindB_iff, decide_eq_true_eq, and_assoc]
theorem refSum7_any (s : ByteArray) (w : World) (hs : s.size ≤ 9223372036854775807) (N : Nat) (HN : Hid (adS s.data.toList = N)) :
  Calls Tryz.prog 126 #[.string s] w fun e w' => e = .returned (.int .u32 (N : Int)) ∧ w = w' := by
 go_enter Tryz.func126, Tryz.ntmps126;go_wp2_with fail
 go_loop [3, 4, 5] (fun a b i => ∃ k A B : Nat, k ≤ s.size ∧ a = .int .i64 (A : Int) ∧ b = .int .i64 (B : Int) ∧ i = .int .i64 (k : Int) ∧ A < 65521 ∧ B < 65521 ∧ Hid (adA (s.data.toList.take k) = A) ∧ Hid (adB (s.data.toList.take k) = B)) (fun _ _ i => s.size + 1 - (intOf i).toNat)
 case atStart => exact ⟨0, 1, 0, Nat.zero_le _, rfl, rfl, rfl, by decide, by decide, Hd (by simp; rfl), Hd (by simp; rfl)⟩
 case round =>
  obtain ⟨k, A, B, hk, rfl, rfl, rfl, hA, hB, HA, HB⟩ := hrel
  by_cases hlt : k < s.size
  ·obtain ⟨x, hx⟩ : ∃ x, s[k].toNat = x := ⟨_, rfl⟩
   have hx2 : x < 256 := by rw [← hx]; exact UInt8.toNat_lt _
   have F := Hd (adF_hid s k hlt A B x HA.out HB.out hx);have FX := Hd hx;clear HA HB;have hli : (k : Int) < (s.size : Int) := by omega
   go_wp2_with fail
   go_round
   case rel => exact ⟨k + 1, _, _, by omega, rfl, rfl, by go_num, Nat.mod_lt _ (by decide), Nat.mod_lt _ (by decide), Hd F.out.1, Hd F.out.2⟩
   case measure => simp [intOf]; omega
  ·obtain rfl : k = s.size := by omega
   have HJ := Hd (join16 A B hA hB)
   have HV : Hid (B * 65536 + A = N) := Hd (by
    have e : s.data.toList.take s.size = s.data.toList := List.take_of_length_le (by simp);rw [← HN.out, ← HA.out, ← HB.out, e]; rfl)
   clear HA HB HN;go_wp2_with fail;go_ret;exact ⟨by rw [HJ.out, HV.out]; rfl, rfl⟩
theorem four_rowcells (n : Nat) (hn : n < 4294967296) (w : World) : (convert 62 9 (.slice (some ⟨w.heap.size, 0, none⟩) 4 4)).run Tryz.prog (w.alloc (.cells (fourArr n 4) 5)) = .ok (.string (Str (four n))) (w.alloc (.cells (fourArr n 4) 5)) := by
 have hconv := run_convert_bytes_back (P := Tryz.prog) (w.alloc (.cells (fourArr n 4) 5)) 62 9 5 ⟨w.heap.size, 0, none⟩ 4 (four n) Tryz.underlying62 Tryz.underlying5 Tryz.underlying9 (fun j hj => by
  have := four_cells n j hn hj;rw [show (⟨w.heap.size, 0, none⟩ : Addr).add j = ⟨w.heap.size, j, none⟩ by unfold Addr.add; split <;> simp_all];rw [← this]; simp)
 rwa [four_length] at hconv
theorem refFour_is (n : Nat) (w : World) (hn : n < 4294967296) (B : ByteArray) (HB : Hid (Str (four n) = B)) :
  Calls Tryz.prog 125 #[.int .u32 (n : Int)] w fun e w' => e = .returned (.string B) ∧ Below w.heap.size w w' := by
 have hcv := four_rowcells n hn w;unfold fourArr at hcv;rw [HB.out] at hcv;go_enter Tryz.func125, Tryz.ntmps125;go_wp2_with fail;go_ret;exact ⟨rfl, Br.alloc (Nat.le_refl _) _⟩
theorem two_conv (a b : UInt8) (w : World) : (convert 62 9 (.slice (some ⟨w.heap.size, 0, none⟩) 2 2)).run Tryz.prog (w.alloc (.cells #[vb a, vb b] 5)) = .ok (.string (Str [a, b])) (w.alloc (.cells #[vb a, vb b] 5)) := by
 have hrow : Byt 5 (w.alloc (.cells #[vb a, vb b] 5)) w.heap.size [a, b] := heap_alloc_new w _;exact hrow.conv 2 2 (Nat.le_refl _)
theorem seal_parts (k n : Nat) (t : List UInt8) (h : t.length = n) (hn : n ≤ 240) (U : ByteArray) (hU : U = Str [UInt8.ofNat k, UInt8.ofNat n] ++ Str t) : U ++ Str (List.replicate (250 - n) 0) = Str (pgBody k t) := by
 subst hU; subst h;apply eq_of_data;rw [append_list, append_list, Str_list, Str_list, Str_list, Str_list];unfold pgBody;simp
theorem refSeal_yes (k : Nat) (t : ByteArray) (w : World) (h1 : 1 ≤ k) (h2 : k ≤ 15) (h3 : t.size ≤ 240) (S : ByteArray) (HS : Hid (Str (pgL k t.data.toList) = S)) :
  Calls Tryz.prog 102 #[.int .i64 (k : Int), .string t] w fun e w' => e = .returned (.tuple #[.string S, .bool true]) ∧ Below w.heap.size w w' := by
 have hcv := two_conv (UInt8.ofNat k) (UInt8.ofNat t.size) w;have e1 : vb (UInt8.ofNat k) = .int .u8 (k : Int) := by unfold vb; rw [UInt8.toNat_ofNat', Nat.mod_eq_of_lt (by omega)]
 have e2 : vb (UInt8.ofNat t.size) = .int .u8 (t.size : Int) := by unfold vb; rw [UInt8.toNat_ofNat', Nat.mod_eq_of_lt (by omega)]
 rw [e1, e2] at hcv;obtain ⟨H, hH⟩ : ∃ H, Str [UInt8.ofNat k, UInt8.ofNat t.size] = H := ⟨_, rfl⟩
 have hHz : H.size = 2 := by rw [← hH, Str_size]; rfl
 rw [hH] at hcv;obtain ⟨U, hU⟩ : ∃ U, H ++ t = U := ⟨_, rfl⟩
 have hUz : U.size = 2 + t.size := by rw [← hU, ByteArray.size_append, hHz]
 have HP : Hid (U ++ Str (List.replicate (250 - t.size) 0) = Str (pgBody k t.data.toList)) := Hd (seal_parts k t.size t.data.toList (by simp) h3 U (by rw [← hU, ← hH, Str_of]));obtain ⟨w2, hmk, hrow, hbel⟩ := made_bytes (w.alloc (.cells #[.int .u8 (k : Int), .int .u8 (t.size : Int)] 5)) (250 - t.size) (250 - t.size) (Nat.le_refl _) (by omega);have hcv2 := hrow.conv (250 - t.size) (250 - t.size) (by simp);rw [List.take_of_length_le (by simp)] at hcv2;obtain ⟨m, hm⟩ : ∃ m, 250 - t.size = m := ⟨_, rfl⟩
 obtain ⟨Z, hZ⟩ : ∃ Z, Str (List.replicate m (0 : UInt8)) = Z := ⟨_, rfl⟩
 have hZz : Z.size = m := by rw [← hZ, Str_size]; simp
 rw [hm] at hmk hcv2 HP;rw [hZ] at hcv2 HP;obtain ⟨X, hX⟩ : ∃ X, Str (pgBody k t.data.toList) = X := ⟨_, rfl⟩
 have hXz : X.size = 252 := by rw [← hX, Str_size]; exact pgBody_length k _ (by simpa using h3)
 rw [hX] at HP;have hUZ := HP.out;have hBW := Hd (chain ((Below.refl w.heap.size w).alloc (Nat.le_refl _) (.cells #[.int .u8 (k : Int), .int .u8 (t.size : Int)] 5)) hbel);obtain ⟨N, HN⟩ : ∃ N, Hid (adS X.data.toList = N) := ⟨_, Hd rfl⟩
 have hN := adS_lt X.data.toList;rw [HN.out] at hN;obtain ⟨Y, HY⟩ : ∃ Y, Hid (Str (four N) = Y) := ⟨_, Hd rfl⟩
 have hYz : Y.size = 4 := by rw [← HY.out, Str_size, four_length]
 have HXY : Hid (X ++ Y = S) := Hd (by
  rw [← HS.out, ← HY.out, ← HN.out, ← hX, Str_append, Str_list, Str_list]; rfl)
 have hXY := HXY.out;have hmi : 252 - (2 + (t.size : Int)) = (m : Int) := by omega
 have hs1 : (w.alloc (.cells #[.int .u8 (k : Int), .int .u8 (t.size : Int)] 5)).heap.size = w.heap.size + 1 := by simp
 rw [hs1] at hmk hcv2;clear hrow hbel e1 e2 hH HP hm hZ hX HS hs1;go_enter Tryz.func102, Tryz.ntmps102;go_wp2_with fail;refine (refSum7_any X _ (by omega) N HN).mono ?_;rintro e w3 ⟨rfl, rfl⟩;go_wp2_with fail;refine (refFour_is N _ hN Y HY).mono ?_;rintro e w4 ⟨rfl, b4⟩;have BB := Hd (chain hBW.out b4);clear b4;go_wp2_with fail;go_ret2;exact ⟨by rw [← hXY]; rfl, BB.out⟩
theorem refSeal_no (k : Int) (t : ByteArray) (w : World) (h : sealB k t = false) :
  Calls Tryz.prog 102 #[.int .i64 k, .string t] w fun e w' => e = .returned (.tuple #[.string ⟨#[]⟩, .bool false]) ∧ w = w' := by
 have hc : k < 1 ∨ (1 ≤ k ∧ 15 < k) ∨ (1 ≤ k ∧ k ≤ 15 ∧ 240 < (t.size : Int)) := by
  have : ¬ (1 ≤ k ∧ k ≤ 15 ∧ t.size ≤ 240) := fun hh => by
   rw [(sealB_iff7 _ _).2 hh] at h; cases h
  omega
 clear h
 rcases hc with h0 | ⟨h0, h1⟩ | ⟨h0, h1, h2⟩
 all_goals
  go_enter Tryz.func102, Tryz.ntmps102;go_wp2_with fail;go_ret2;exact ⟨rfl, rfl⟩
theorem refSeal_any (k : Int) (t : ByteArray) (w : World) :
  Calls Tryz.prog 102 #[.int .i64 k, .string t] w fun e w' => e = .returned (.tuple #[.string (sealS k t), .bool (sealB k t)]) ∧ Below w.heap.size w w' := by
 cases h : sealB k t
 ·refine (refSeal_no k t w h).mono ?_
  rintro e w' ⟨rfl, rfl⟩;exact ⟨by unfold sealS; rw [h]; rfl, Br⟩
 ·obtain ⟨h1, h2, h3⟩ := (sealB_iff7 k t).1 h
  obtain ⟨n, rfl⟩ := Int.eq_ofNat_of_zero_le (show 0 ≤ k by omega);refine (refSeal_yes n t w (by omega) (by omega) h3 _ (Hd rfl)).mono ?_;rintro e w' ⟨rfl, hb⟩;exact ⟨by unfold sealS; rw [h]; rfl, hb⟩
def WasV (p : Nat × List UInt8) : List Value := [.int .i64 (p.1 : Int), .string (Str p.2)]
theorem wasV_len (L : List (Nat × List UInt8)) : (L.flatMap WasV).length = L.length * 2 := by
  induction L with
  | nil => rfl
  | cons p L ih => rw [List.flatMap_cons, List.length_append, ih, List.length_cons]; show 2 + _ = _; omega
theorem wasV_get (L : List (Nat × List UInt8)) (j : Nat) (hj : j < L.length) : (L.flatMap WasV)[j * 2]? = some (.int .i64 ((L[j].1 : Nat) : Int)) := by
  induction L generalizing j with
  | nil => simp at hj
  | cons p L ih =>
    rw [List.flatMap_cons]
    cases j with
    | zero => rfl
    | succ j =>
      have hj2 : j < L.length := by simpa using hj
      rw [List.getElem?_append_right (by show 2 ≤ _; omega)];have e : (j + 1) * 2 - (WasV p).length = j * 2 := by show (j + 1) * 2 - 2 = _; omega
      rw [e, ih j hj2];simp
structure RkIn (w : World) (x : Nat) (vs vl : Value) (st : DkS) : Prop where
  cell : w.heap[x]? = some (.cells #[vs, vl, .int .i64 st.fuse, .bool (!st.up)] 167 (0, 0))
  secs : w.ownsRow 0 9 1 vs st.S.length (st.S.map fun s => .string (Str s))
  loose : w.ownsRow 0 195 2 vl st.L.length (st.L.flatMap WasV)
  sx : vs.ownBlock ≠ some x
  lx : vl.ownBlock ≠ some x
  sl : ∀ k, vs.ownBlock = some k → vl.ownBlock ≠ some k
  ok : st.Ok
def RkF (x : Nat) (vs vl : Value) (k : Nat) : Prop := k = x ∨ vs.ownBlock = some k ∨ vl.ownBlock = some k
def Rk (w : World) (x : Nat) (st : DkS) (F : Nat → Prop) : Prop := ∃ vs vl, RkIn w x vs vl st ∧ ∀ k, F k ↔ RkF x vs vl k
theorem ownsRow_keptN {w w' : World} {e : TypeId} {b size : Nat} {v : Value} {n : Nat} {xs : List Value} (h : w.ownsRow b e size v n xs) (hk : ∀ k, v.ownBlock = some k → w'.heap[k]? = w.heap[k]?) : w'.ownsRow b e size v n xs := by
  refine ⟨h.1, ?_⟩
  rcases h.2 with h2 | ⟨g, cap, cur, rfl, hb, hg, r⟩
  · exact .inl h2
  · exact .inr ⟨g, cap, cur, rfl, hb, (hk g rfl).trans hg, r⟩
theorem ownsRow_base {w : World} {e : TypeId} {b size : Nat} {v : Value} {n : Nat} {xs : List Value} (h : w.ownsRow b e size v n xs) : w.ownsRow 0 e size v n xs := by
  refine ⟨h.1, ?_⟩
  rcases h.2 with h2 | ⟨g, cap, cur, hv, hb, r⟩
  · exact .inl h2
  · exact .inr ⟨g, cap, cur, hv, Nat.zero_le _, r⟩
theorem ownsRow_put {w : World} {e : TypeId} {g n cap : Nat} {xs : List Value} (h : w.ownsRow 0 e 1 (.slice (some ⟨g, 0, none⟩) n cap) n xs) (j : Nat) (u : Value) : (w.setCell ⟨g, j, none⟩ u).ownsRow 0 e 1 (.slice (some ⟨g, 0, none⟩) n cap) n (xs.set j u) := by
  refine ⟨by rw [List.length_set]; exact h.1, .inr ?_⟩
  rcases h.2 with ⟨h2, _⟩ | ⟨g2, cap2, cur, hv, hb, hg, hnc, hcm, hcs, ht⟩
  · cases h2
  · injection hv with h1 h2 h3;injection h1 with h1;injection h1 with h1;subst h1 h3;refine ⟨g, cap, _, rfl, hb, heap_setCell_same w g j _ _ u hg, hnc, hcm, by rw [Array.size_setIfInBounds]; exact hcs, ?_⟩;rw [Array.toList_setIfInBounds, List.take_set, ht]
theorem RkIn.lt {w : World} {x : Nat} {vs vl : Value} {st : DkS} (h : RkIn w x vs vl st) (k : Nat) (hk : RkF x vs vl k) : k < w.heap.size := by
  rcases hk with rfl | hk | hk
  · exact (Array.getElem?_eq_some_iff.1 h.cell).1
  · exact (h.secs.lt k hk).2
  · exact (h.loose.lt k hk).2
theorem RkIn.kept {w w' : World} {x : Nat} {vs vl : Value} {st : DkS} (h : RkIn w x vs vl st) (hk : ∀ k, RkF x vs vl k → w'.heap[k]? = w.heap[k]?) : RkIn w' x vs vl st :=
  ⟨(hk x (.inl rfl)).trans h.cell, ownsRow_keptN h.secs fun k hj => hk k (.inr (.inl hj)), ownsRow_keptN h.loose fun k hj => hk k (.inr (.inr hj)), h.sx, h.lx, h.sl, h.ok⟩
theorem RkIn.below {w w' : World} {x : Nat} {vs vl : Value} {st : DkS} (h : RkIn w x vs vl st) (hb : Below w.heap.size w w') : RkIn w' x vs vl st := h.kept fun k hk => hb.block k (h.lt k hk)
theorem RkIn.cells {w : World} {x : Nat} {vs vl : Value} {st : DkS} (h : RkIn w x vs vl st) :
    w.cell? ⟨x, 0, none⟩ = some vs ∧ w.cell? ⟨x, 1, none⟩ = some vl ∧ w.cell? ⟨x, 2, none⟩ = some (.int .i64 st.fuse) ∧ w.cell? ⟨x, 3, none⟩ = some (.bool (!st.up)) := by
  refine ⟨?_, ?_, ?_, ?_⟩ <;> (rw [cell_of_row w x _ _ _ _ h.cell]; rfl)
theorem RkIn.free {w : World} {x : Nat} {vs vl : Value} {st : DkS} (h : RkIn w x vs vl st) (j : Nat) : w.frozen? ⟨x, j, none⟩ = false := frozen_of_row w x j _ _ h.cell
theorem RkIn.setFuse {w : World} {x : Nat} {vs vl : Value} {st : DkS} (h : RkIn w x vs vl st) (f : Int) (h0 : -9223372036854775808 ≤ f) (h1 : f ≤ 9223372036854775807) : RkIn (w.setCell ⟨x, 2, none⟩ (.int .i64 f)) x vs vl { st with fuse := f } :=
  ⟨by rw [heap_setCell_same w x 2 _ _ _ h.cell]; rfl, ownsRow_keptN h.secs fun k hk => heap_setCell_other _ _ k _ (fun e => h.sx (by rw [hk, e])), ownsRow_keptN h.loose fun k hk => heap_setCell_other _ _ k _ (fun e => h.lx (by rw [hk, e])), h.sx, h.lx, h.sl,
   { lens := h.ok.lens, had := h.ok.had, keys := h.ok.keys, few := h.ok.few, least := h.ok.least, fuse0 := h0, fuse1 := h1 }⟩
theorem RkIn.setUp {w : World} {x : Nat} {vs vl : Value} {st : DkS} (h : RkIn w x vs vl st) (u : Bool) : RkIn (w.setCell ⟨x, 3, none⟩ (.bool (!u))) x vs vl { st with up := u } :=
  ⟨by rw [heap_setCell_same w x 3 _ _ _ h.cell]; rfl, ownsRow_keptN h.secs fun k hk => heap_setCell_other _ _ k _ (fun e => h.sx (by rw [hk, e])), ownsRow_keptN h.loose fun k hk => heap_setCell_other _ _ k _ (fun e => h.lx (by rw [hk, e])), h.sx, h.lx, h.sl,
   { lens := h.ok.lens, had := h.ok.had, keys := h.ok.keys, few := h.ok.few, least := h.ok.least, fuse0 := h.ok.fuse0, fuse1 := h.ok.fuse1 }⟩
theorem RkIn.vs_is {w : World} {x : Nat} {vs vl : Value} {st : DkS} (h : RkIn w x vs vl st) : ∃ g cap, vs = .slice (some ⟨g, 0, none⟩) st.S.length cap ∧ st.S.length ≤ cap ∧ cap ≤ maxLen := by
  rcases h.secs.2 with ⟨_, h2⟩ | ⟨g, cap, cur, hv, hb, hg, hnc, hcm, _⟩
  · have := h.ok.least; omega
  · exact ⟨g, cap, hv, hnc, hcm⟩
theorem RkIn.sec {w : World} {x g cap : Nat} {vl : Value} {st : DkS} (h : RkIn w x (.slice (some ⟨g, 0, none⟩) st.S.length cap) vl st) (n : Nat) (hn : n < st.S.length) : w.cell? ⟨g, n, none⟩ = some (.string (Str st.S[n])) ∧ w.frozen? ⟨g, n, none⟩ = false := by
  refine ⟨?_, ?_⟩
  · have := h.secs.cells (g := g) rfl n (.string (Str st.S[n])) (by rw [List.getElem?_map, List.getElem?_eq_getElem hn]; rfl);rw [addr_add, Nat.zero_add] at this;exact this
  · rcases h.secs.2 with ⟨h2, _⟩ | ⟨g2, cap2, cur, hv, hb, hg, _⟩
    · cases h2
    · injection hv with h1 h2 h3;injection h1 with h1;injection h1 with h1;subst h1;exact frozen_of_row w g n _ _ hg
theorem RkIn.setSec {w : World} {x g cap : Nat} {vl : Value} {st : DkS} (h : RkIn w x (.slice (some ⟨g, 0, none⟩) st.S.length cap) vl st) (n : Nat) (s : ByteArray) (hs : s.size = 256) : RkIn (w.setCell ⟨g, n, none⟩ (.string s)) x (.slice (some ⟨g, 0, none⟩) st.S.length cap) vl { st with S := st.S.set n s.data.toList } := by
  have hxg : x ≠ g := fun e => h.sx (by rw [e]; rfl)
  refine ⟨(heap_setCell_other _ _ x _ hxg).trans h.cell, ?_, ownsRow_keptN h.loose fun k hk => heap_setCell_other _ _ k _ (fun e => h.sl g rfl (by rw [hk, e])), h.sx, h.lx, h.sl, ?_⟩
  · have := ownsRow_put h.secs n (.string s);rw [List.length_set, List.map_set, Str_of];exact this
  · refine { lens := fun s' hs' => ?_, had := fun p hp => by rw [List.length_set]; exact h.ok.had p hp, keys := h.ok.keys, few := by rw [List.length_set]; exact h.ok.few, least := by rw [List.length_set]; exact h.ok.least, fuse0 := h.ok.fuse0, fuse1 := h.ok.fuse1 }
    rcases List.mem_or_eq_of_mem_set hs' with h1 | h1
    · exact h.ok.lens s' h1
    · rw [h1]; simpa using hs
def RkPost (w : World) (x : Nat) (st : DkS) (F : Nat → Prop) (w' : World) : Prop := ∃ F', Rk w' x st F' ∧ Frm F w w' ∧ ∀ k, F' k → F k ∨ w.heap.size ≤ k
theorem RkPost.same {w : World} {x : Nat} {st : DkS} {F : Nat → Prop} (h : Rk w x st F) : RkPost w x st F w := ⟨F, h, Frm.refl _ _, fun k hk => .inl hk⟩
theorem was_info : ∃ i, Tryz.prog.info? 195 = some i ∧ i.zero = some (.agg #[.int .i64 0, .string ⟨#[]⟩]) ∧ i.size = 2 ∧ i.bytes = 24 := by
 have : (Tryz.prog.info? 195).map (fun i => (i.zero, i.size, i.bytes)) = some (some (.agg #[.int .i64 0, .string ⟨#[]⟩]), 2, 24) := by kernel_rfl
 cases hq : Tryz.prog.info? 195 with
 | none => rw [hq] at this; cases this
 | some i =>
  rw [hq] at this;simp only [Option.map_some, Option.some.injEq, Prod.mk.injEq] at this;exact ⟨i, rfl, this.1, this.2.1, this.2.2⟩
def cutV : Value → Nat → Value
 | .slice a _ _, n => .slice a n n
 | v, _ => v
theorem was_append {w : World} {vl : Value} {L : List (Nat × List UInt8)} (hown : w.ownsRow 0 195 2 vl L.length (L.flatMap WasV)) (hL : L.length ≤ 640) (b : Nat) (p : Nat × List UInt8)
  (hb : w.heap[b]? = some (.cells #[.int .i64 (p.1 : Int), .string (Str p.2)] 195 (0, 0))) :
  ∃ cap w', (Builtin.append_ #[165, 165] 165 #[cutV vl L.length, .slice (some ⟨b, 0, none⟩) 1 1]).run Tryz.prog w = .ok (.slice (some ⟨w.heap.size, 0, none⟩) (L.length + 1) cap) w' ∧
   w'.ownsRow 0 195 2 (.slice (some ⟨w.heap.size, 0, none⟩) (L.length + 1) cap) (L.length + 1) ((L ++ [p]).flatMap WasV) ∧ Below w.heap.size w w' := by
 obtain ⟨i, hi, hz, hsize, hby⟩ := was_info
 have hnews : ∀ j u, (WasV p)[j]? = some u → w.cell? ((⟨b, 0, none⟩ : Addr).add j) = some u := by
  intro j u hj;rw [addr_add, Nat.zero_add, cell_of_row w b j _ _ _ hb];unfold WasV at hj
  match j, hj with
  | 0, hj => simpa using hj
  | 1, hj => simpa using hj
  | j + 2, hj => simp at hj
 have hlen : (L.flatMap WasV ++ WasV p).length = (L.length + 1) * i.size := by rw [List.length_append, wasV_len, hsize]; show _ + 2 = _; omega
 have grown : ∀ (w1 : World) (c : Nat) (cs : Array Value), w1 = w.drew.alloc (.cells cs 195) → cs.toList = L.flatMap WasV ++ WasV p ++ (Builtin.zeroCells (.agg #[.int .i64 0, .string ⟨#[]⟩] : Value).cells (c - (L.length + 1))).toList → L.length + 1 ≤ c → c ≤ maxLen →
   w1.ownsRow 0 195 2 (.slice (some ⟨w.heap.size, 0, none⟩) (L.length + 1) c) (L.length + 1) ((L ++ [p]).flatMap WasV) ∧ Below w.heap.size w w1 := by
  intro w1 c cs hw1 hcs h1 h2;subst hw1;have e : (L ++ [p]).flatMap WasV = L.flatMap WasV ++ WasV p := by simp
  rw [e];refine ⟨⟨by rw [hlen, hsize], .inr ⟨w.heap.size, c, cs, rfl, Nat.zero_le _, heap_alloc_new w.drew _, h1, h2, ?_, ?_⟩⟩, ⟨rfl, rfl, rfl, by simp, fun k hk => Below.heap_alloc w.drew _ k hk⟩⟩
  ·have hzl : ∀ n, (Builtin.zeroCells (Value.agg #[.int .i64 0, .string ⟨#[]⟩]).cells n).toList.length = n * 2 := fun n => by
    rw [Array.length_toList, size_zeroCells]
    rfl
   rw [← Array.length_toList, hcs, List.length_append, hlen, hsize, hzl];omega
  ·rw [hcs, ← hsize, ← hlen]
   exact List.take_left
 rcases hown.2 with ⟨rfl, h0⟩ | ⟨g, cap, cur, rfl, hbg, hg, hnc, hcm, hcs, htake⟩
 ·have hr := run_append_nil (P := Tryz.prog) w 165 165 195 i _ Tryz.underlying165 hi hz ⟨b, 0, none⟩ 1 1 (WasV p) (by rw [hsize]; rfl) hnews (by decide) (by decide) (by omega)
  obtain rfl : L = [] := List.length_eq_zero_iff.1 h0;exact ⟨_, _, hr, grown _ _ _ rfl (by simp) (grownCap_ge w 1 0 _) (grownCap_le_maxLen w 1 0 _ (by decide))⟩
 ·have holds : ∀ j u, (L.flatMap WasV)[j]? = some u → w.cell? ((⟨g, 0, none⟩ : Addr).add j) = some u := hown.cells (g := g) rfl
  have hr := run_append_grow (P := Tryz.prog) w 165 165 195 i _ Tryz.underlying165 hi hz ⟨g, 0, none⟩ L.length L.length (L.flatMap WasV) (by rw [hsize, wasV_len]) holds ⟨b, 0, none⟩ 1 1 (WasV p) (by rw [hsize]; rfl) hnews (by omega) (by omega) (growslice_fits (by omega) (by rw [hby]; omega));exact ⟨_, _, hr, grown _ _ _ rfl (by simp) (grownCap_ge w _ _ _) (grownCap_le_maxLen w _ _ _ (by unfold maxLen; omega))⟩
theorem step_append_run {P : Program} {ops : Array Oper} {o : Oper} {a : Act} {w w' : World} {K : Act → World → Prop} {Q : Exit → Act → World → Prop} {E : Prop} (hgd : o.guard = none) (s x : Operand) (t : TypeId)
  (ho : o.op = .call { callee := .builtin .append, args := #[s, x], argTypes := #[t, t] }) (v y v' : Value) (hs : a.eval s = v) (hx : a.eval x = y)
  (hr : (Builtin.append_ #[t, t] o.type #[v, y]).run P w = .ok v' w') (h : K (a.put o.dst v') w') :
  if Region.wanted o (yielded ops a.tmps) = true then Oper.wp P o a w K Q else E := by
 have hw : Region.wanted o (yielded ops a.tmps) = true := by simp [Region.wanted, hgd]
 rw [if_pos hw];unfold Oper.wp;simp [execOp, ho, resolve, invoke, builtin, hs, hx, hr, Result.andThen];exact h
theorem RkIn.grow {wr w2 : World} {x : Nat} {vs vl v' : Value} {st : DkS} (h : RkIn wr x vs vl st) (hb : Below wr.heap.size wr w2) (p : Nat × List UInt8) (ho : w2.ownsRow 0 195 2 v' (st.L.length + 1) ((st.L ++ [p]).flatMap WasV)) (N1 : Nat) (hv : v'.ownBlock = some N1) (hN : wr.heap.size ≤ N1)
  (h1 : p.1 < st.S.length) (h2 : p.2.length = 256) (h3 : p.1 ∉ st.L.map (·.1)) : RkIn (w2.setCell ⟨x, 1, none⟩ v') x vs v' { st with L := st.L ++ [p] } := by
 have hx : x < wr.heap.size := h.lt x (.inl rfl);have hg := h.below hb;refine ⟨by rw [heap_setCell_same w2 x 1 _ _ _ hg.cell]; rfl, ownsRow_keptN hg.secs fun k hk => heap_setCell_other _ _ k _ (fun e => h.sx (by rw [hk, e])), ?_, h.sx, by rw [hv]; intro e; injection e with e; omega, fun k hk e => ?_, ?_⟩
 ·have := ownsRow_keptN (w' := w2.setCell ⟨x, 1, none⟩ v') ho fun k hk => heap_setCell_other _ _ k _ (fun e => by rw [hv] at hk; injection hk with hk; have e : k = x := e; omega)
  simpa using this
 ·have := h.lt k (.inr (.inl hk))
  rw [hv] at e;injection e with e;omega
 ·refine { lens := h.ok.lens, had := fun q hq => ?_, keys := ?_, few := h.ok.few, least := h.ok.least, fuse0 := h.ok.fuse0, fuse1 := h.ok.fuse1 }
  ·rcases List.mem_append.1 hq with hq | hq
   ·exact h.ok.had q hq
   ·rw [List.mem_singleton.1 hq]; exact ⟨h1, h2⟩
  ·show ((st.L ++ [p]).map (·.1)).Nodup
   rw [List.map_append, List.nodup_append];refine ⟨h.ok.keys, by simp, fun a ha b hb2 => ?_⟩;rw [List.map_singleton, List.mem_singleton] at hb2;intro e;exact h3 (by rw [← hb2, ← e]; exact ha)
theorem refWrite_down (w : World) (x : Nat) (st : DkS) (F : Nat → Prop) (h : Rk w x st F) (i : Int) (s : ByteArray) (hu : st.up = false) :
  Calls Tryz.prog 103 #[.pointer (some ⟨x, 0, none⟩), .int .i64 i, .string s] w fun e w' => e = .returned (.int .i64 5) ∧ w = w' := by
 obtain ⟨vs, vl, hi, he⟩ := h;obtain ⟨_, _, _, c3⟩ := hi.cells;rw [hu] at c3;clear hi he hu;go_enter Tryz.func103, Tryz.ntmps103;try simp only [List.append_eq, List.cons_append, List.nil_append]
 go_wp2_with fail;go_ret;exact ⟨rfl, rfl⟩
theorem refWrite_arg (w : World) (x : Nat) (st : DkS) (F : Nat → Prop) (h : Rk w x st F) (i : Int) (s : ByteArray) (hu : st.up = true) (hn : i < 0 ∨ (0 ≤ i ∧ (st.S.length : Int) ≤ i) ∨ (0 ≤ i ∧ i < (st.S.length : Int) ∧ ((s.size : Int) != 256) = true)) :
  Calls Tryz.prog 103 #[.pointer (some ⟨x, 0, none⟩), .int .i64 i, .string s] w fun e w' => e = .returned (.int .i64 1) ∧ w = w' := by
 obtain ⟨vs, vl, hi, he⟩ := h;obtain ⟨g, cap, rfl, h1, h2⟩ := hi.vs_is;obtain ⟨c0, _, _, c3⟩ := hi.cells;rw [hu] at c3;clear hi he hu;generalize st.S.length = m at *
 rcases hn with hn | ⟨hn, hn2⟩ | ⟨hn, hn2, hn3⟩
 all_goals
  go_enter Tryz.func103, Tryz.ntmps103;try simp only [List.append_eq, List.cons_append, List.nil_append]
  go_wp2_with fail;go_ret;exact ⟨rfl, rfl⟩
theorem refWrite_blown (w : World) (x : Nat) (st : DkS) (F : Nat → Prop) (h : Rk w x st F) (i : Nat) (s : ByteArray) (hu : st.up = true) (hi : i < st.S.length) (hs : s.size = 256) (hf : st.fuse = 0) :
  Calls Tryz.prog 103 #[.pointer (some ⟨x, 0, none⟩), .int .i64 (i : Int), .string s] w fun e w' => e = .returned (.int .i64 5) ∧ RkPost w x { st with up := false } F w' := by
 obtain ⟨vs, vl, hin, he⟩ := h;obtain ⟨g, cap, rfl, h1, h2⟩ := hin.vs_is;obtain ⟨c0, _, c2, c3⟩ := hin.cells;have f3 := hin.free 3;have FIN : Hid (RkPost w x { st with up := false } F (w.setCell ⟨x, 3, none⟩ (.bool true))) := Hd ⟨F, ⟨_, _, hin.setUp false, he⟩, (Frm.refl _ _).setCell _ _ (.inl ((he x).2 (.inl rfl))), fun k hk => .inl hk⟩;rw [hu] at c3;rw [hf] at c2;clear hin he hu hf;have hs2 : ((s.size : Int) != 256) = false := by rw [hs]; rfl
 generalize st.S.length = m at *;have hii : (i : Int) < (m : Int) := by omega
 clear hs;go_enter Tryz.func103, Tryz.ntmps103;try simp only [List.append_eq, List.cons_append, List.nil_append]
 go_wp2_with fail;go_ret;exact ⟨rfl, FIN.out⟩
def metB (L : List (Nat × List UInt8)) (n j : Nat) : Bool := (L.take j).any fun p => p.1 == n
theorem metB_step (L : List (Nat × List UInt8)) (n j : Nat) (hj : j < L.length) : metB L n (j + 1) = (metB L n j || decide (L[j].1 = n)) := by
 unfold metB;rw [List.take_add_one, List.getElem?_eq_getElem hj, List.any_append];simp
 rfl
theorem metB_all (L : List (Nat × List UInt8)) (n : Nat) : metB L n L.length = L.any fun p => p.1 == n := by
 unfold metB;rw [List.take_length]
theorem RkIn.sec2 {w : World} {x g m cap : Nat} {vl : Value} {st : DkS} (h : RkIn w x (.slice (some ⟨g, 0, none⟩) m cap) vl st) (hm : st.S.length = m) (n : Nat) (hn : n < m) : w.cell? ⟨g, n, none⟩ = some (.string (Str (st.S.getD n []))) ∧ w.frozen? ⟨g, n, none⟩ = false := by
 subst hm;have := h.sec n hn;rw [List.getD_eq_getElem?_getD, List.getElem?_eq_getElem hn];exact this
theorem RkIn.setSec2 {w : World} {x g m cap : Nat} {vl : Value} {st : DkS} (h : RkIn w x (.slice (some ⟨g, 0, none⟩) m cap) vl st) (hm : st.S.length = m) (n : Nat) (s : ByteArray) (hs : s.size = 256) : RkIn (w.setCell ⟨g, n, none⟩ (.string s)) x (.slice (some ⟨g, 0, none⟩) m cap) vl { st with S := st.S.set n s.data.toList } := by
 subst hm;exact h.setSec n s hs
theorem RkIn.addr {w : World} {x q vc : Nat} {vs : Value} {va : Option Addr} {st : DkS} (h : RkIn w x vs (.slice va q vc) st) (hq : st.L.length = q) (hp : 0 < q) : ∃ l, va = some ⟨l, 0, none⟩ ∧ ∀ j (hj : j < st.L.length), w.cell? ⟨l, j * 2, none⟩ = some (.int .i64 ((st.L[j].1 : Nat) : Int)) := by
 rcases h.loose.2 with ⟨_, h2⟩ | ⟨l, cap, cur, hv, _⟩
 ·omega
 ·injection hv with h1 h2 h3
  subst h1;refine ⟨l, rfl, fun j hj => ?_⟩;have := h.loose.cells (g := l) rfl (j * 2) _ (wasV_get st.L j hj);rw [addr_add, Nat.zero_add] at this;exact this
theorem RkIn.caps {w : World} {x q vc : Nat} {vs : Value} {a : Addr} {st : DkS} (h : RkIn w x vs (.slice (some a) q vc) st) : q ≤ vc ∧ vc ≤ maxLen := by
 rcases h.loose.2 with ⟨h1, _⟩ | ⟨l, cap, cur, hv, _, _, h3, h4, _⟩
 ·cases h1
 ·injection hv with h1 h2 h5
  omega
theorem RkIn.caps0 {w : World} {x q vc : Nat} {vs : Value} {st : DkS} (h : RkIn w x vs (.slice none q vc) st) (hq : st.L.length = q) : q = 0 ∧ vc = 0 := by
 rcases h.loose.2 with ⟨h1, h2⟩ | ⟨l, cap, cur, hv, _⟩
 ·injection h1 with h3 h4 h5
  omega
 ·cases hv
theorem RkPost.of {w w' : World} {x : Nat} {vs vl : Value} {st : DkS} {F : Nat → Prop} (hk : RkIn w' x vs vl st) (hf : Frm F w w') (hs : ∀ k, RkF x vs vl k → F k ∨ w.heap.size ≤ k) : RkPost w x st F w' := ⟨RkF x vs vl, ⟨vs, vl, hk, fun _ => Iff.rfl⟩, hf, hs⟩
theorem wrote_met (st : DkS) (n : Nat) (s : List UInt8) (h : (st.L.any fun p => p.1 == n) = true) : st.wrote n s = { st with fuse := (if 0 < st.fuse then st.fuse - 1 else st.fuse), S := st.S.set n s } := by
 unfold DkS.wrote DkS.loosened;simp only [h, if_true]
theorem wrote_new (st : DkS) (n : Nat) (s : List UInt8) (h : (st.L.any fun p => p.1 == n) = false) : st.wrote n s = { st with fuse := (if 0 < st.fuse then st.fuse - 1 else st.fuse), L := st.L ++ [(n, st.S.getD n [])], S := st.S.set n s } := by
 unfold DkS.wrote DkS.loosened;simp only [h]
 rfl
theorem refWrite_yes (w : World) (x : Nat) (st : DkS) (F : Nat → Prop) (h : Rk w x st F) (n : Nat) (s : ByteArray) (hu : st.up = true) (hn : n < st.S.length) (hs : s.size = 256) (hf : st.fuse ≠ 0) :
  Calls Tryz.prog 103 #[.pointer (some ⟨x, 0, none⟩), .int .i64 (n : Int), .string s] w fun e w' => e = .returned (.int .i64 0) ∧ RkPost w x (st.wrote n s.data.toList) F w' := by
 obtain ⟨vs, vl, hin, he⟩ := h;obtain ⟨g, cap, rfl, h1, h2⟩ := hin.vs_is;obtain ⟨c0, c1, c2, c3⟩ := hin.cells;have f2 := hin.free 2;obtain ⟨st1, hst1⟩ : ∃ st1 : DkS, { st with fuse := (if 0 < st.fuse then st.fuse - 1 else st.fuse) } = st1 := ⟨_, rfl⟩
 have hS1 : st1.S = st.S := by rw [← hst1]
 have hL1 : st1.L = st.L := by rw [← hst1]
 rw [hu] at c3;have hs2 : ((s.size : Int) != 256) = false := by rw [hs]; rfl
 have hf2 : (st.fuse == 0) = false := by simpa using hf
 have hf0 := hin.ok.fuse0;have hf1 := hin.ok.fuse1;have hni : (n : Int) < (st.S.length : Int) := by omega
 have hxF : F x := (he x).2 (.inl rfl)
 have key : (0 < st.fuse ∧ Hid (RkIn (w.setCell ⟨x, 2, none⟩ (.int .i64 (st.fuse - 1))) x (.slice (some ⟨g, 0, none⟩) st1.S.length cap) vl st1) ∧ Hid (Frm F w (w.setCell ⟨x, 2, none⟩ (.int .i64 (st.fuse - 1))))) ∨
   (¬ 0 < st.fuse ∧ Hid (RkIn w x (.slice (some ⟨g, 0, none⟩) st1.S.length cap) vl st1) ∧ Hid (Frm F w w)) := by
  by_cases hpos : 0 < st.fuse
  ·refine .inl ⟨hpos, Hd ?_, Hd ((Frm.refl _ _).setCell _ _ (.inl hxF))⟩
   have := hin.setFuse (st.fuse - 1) (by omega) (by omega);rw [hS1, ← hst1, if_pos hpos];exact this
  ·refine .inr ⟨hpos, Hd ?_, Hd (Frm.refl _ _)⟩
   rw [hS1, ← hst1, if_neg hpos];exact hin
 have hFs : Hid (∀ k, RkF x (.slice (some ⟨g, 0, none⟩) st1.S.length cap) vl k → F k) := Hd fun k hk => (he k).2 (by rw [hS1] at hk; exact hk)
 obtain ⟨va, vc, hvl⟩ : ∃ va vc, vl = .slice va st1.L.length vc := by
  rw [hL1]
  rcases hin.loose.2 with ⟨h3, h4⟩ | ⟨l, lc, cur, h3, _⟩
  ·exact ⟨none, 0, by rw [h3, h4]⟩
  ·exact ⟨_, _, h3⟩
 have hq640 : st1.L.length ≤ 640 := by rw [hL1]; exact hin.ok.loose_le
 have WM := Hd (wrote_met st n s.data.toList);have WN := Hd (wrote_new st n s.data.toList);have hS1' := Hd hS1;have hL1' := Hd hL1;have hst1' := Hd hst1;rw [← hS1] at c0 h1 hni hn;subst hvl;obtain ⟨m, hm⟩ : ∃ m, st1.S.length = m := ⟨_, rfl⟩
 obtain ⟨q, hq⟩ : ∃ q, st1.L.length = q := ⟨_, rfl⟩
 have hm' := Hd hm;have hq' := Hd hq;rw [hm] at c0 h1 hni hn key hFs;rw [hq] at c1 hq640 key hFs;have hw0 : Hid (x < w.heap.size) := Hd (hin.lt x (.inl rfl));clear hin he hS1 hL1 hst1 hm hq hu;generalize st.fuse = fu at *
 rcases key with ⟨hpos, H1, HF⟩ | ⟨hpos, H1, HF⟩
 all_goals
  go_enter Tryz.func103, Tryz.ntmps103;try simp only [List.append_eq, List.cons_append, List.nil_append]
  go_wp2_with fail
  go_loopw [7, 8] (fun b i wr => ∃ (j : Nat) (b0 : Bool), j ≤ q ∧ i = .int .i64 (j : Int) ∧ b = .bool b0 ∧ Hid (metB st1.L n j = b0) ∧ Hid (RkIn wr x (.slice (some ⟨g, 0, none⟩) m cap) (.slice va q vc) st1) ∧ Hid (Frm F w wr)) (fun _ i _ => q + 1 - (intOf i).toNat)
  case atStart => exact ⟨0, false, Nat.zero_le _, rfl, rfl, Hd rfl, H1, HF⟩
  case round =>
   obtain ⟨j, b0, hj, rfl, rfl, hb0, H1, HF⟩ := hrel;obtain ⟨d0, d1, _, _⟩ := H1.out.cells
   by_cases hlt : j < q
   ·have hji : (j : Int) < (q : Int) := by omega
    have hjl : j < st1.L.length := by rw [hq'.out]; exact hlt
    have hstep := Hd (metB_step st1.L n j hjl)
    cases b0
    ·obtain ⟨l, hva, hcell⟩ := H1.out.addr hq'.out (by omega)
     have cj := hcell j hjl;subst hva;clear hcell;obtain ⟨k, hk⟩ : ∃ k, st1.L[j].1 = k := ⟨_, rfl⟩
     rw [hk] at cj hstep;clear hk
     by_cases hkn : k = n
     ·have hkb : ((k : Int) == (n : Int)) = true := by rw [hkn]; simp
      have hnext : Hid (metB st1.L n (j + 1) = true) := Hd (by rw [hstep.out, hb0.out, hkn]; simp);clear hkn;go_wp2_with fail;go_roundw
      case rel => exact ⟨j + 1, true, by omega, by go_num, rfl, hnext, H1, HF⟩
      case measure => simp [intOf]; omega
     ·have hkb : ((k : Int) == (n : Int)) = false := by simpa using (fun e : (k : Int) = (n : Int) => hkn (by omega))
      have hnext : Hid (metB st1.L n (j + 1) = false) := Hd (by rw [hstep.out, hb0.out]; simp [hkn]);clear hkn;go_wp2_with fail;go_roundw
      case rel => exact ⟨j + 1, false, by omega, by go_num, rfl, hnext, H1, HF⟩
      case measure => simp [intOf]; omega
    ·have hnext : Hid (metB st1.L n (j + 1) = true) := Hd (by rw [hstep.out, hb0.out]; rfl)
     go_wp2_with fail;go_roundw
     case rel => exact ⟨j + 1, true, by omega, by go_num, rfl, hnext, H1, HF⟩
     case measure => simp [intOf]; omega
   ·have hji : ¬ (j : Int) < (q : Int) := by omega
    have hall : Hid ((st1.L.any fun p => p.1 == n) = b0) := Hd (by rw [← metB_all, hq'.out, ← hb0.out, show j = q by omega])
    cases b0
    ·obtain ⟨cs, fs⟩ := H1.out.sec2 hm'.out n hn
     obtain ⟨X, HX⟩ : ∃ X, Hid (Str (st1.S.getD n []) = X) := ⟨_, Hd rfl⟩
     rw [HX.out] at cs;obtain ⟨W1, hW1⟩ : ∃ W1, wr.drew.alloc (.cells #[.int .i64 (n : Int), .string X] 195) = W1 := ⟨_, rfl⟩
     have hB1 : Below wr.heap.size wr W1 := by rw [← hW1]; exact ((Below.refl _ wr).drew).alloc (Nat.le_refl _) _
     have hK1 := H1.out.below hB1;obtain ⟨c', w2, hap, how, hb2⟩ := was_append (L := st1.L) (vl := .slice va q vc) hK1.loose (by rw [hq'.out]; exact hq640) wr.heap.size (n, st1.S.getD n []) (by rw [← hW1, HX.out]; exact heap_alloc_new _ _);have hcut : cutV (.slice va q vc) st1.L.length = .slice va q q := by rw [hq'.out]; rfl
     rw [hcut, hq'.out] at hap;have hB2 : Below wr.heap.size wr w2 := chain hB1 hb2;have hNW : wr.heap.size ≤ W1.heap.size := hB1.size;obtain ⟨N1, hN1⟩ : ∃ N1, W1.heap.size = N1 := ⟨_, rfl⟩
     rw [hN1] at hap how hNW;rw [hq'.out] at how;have H2 := H1.out.below hB2
     have GR := H1.out.grow hB2 (n, st1.S.getD n []) (by rw [hq'.out]; exact how) N1 rfl hNW (by rw [hm'.out]; exact hn) (by
      rw [List.getD_eq_getElem?_getD, List.getElem?_eq_getElem (by rw [hm'.out]; exact hn)];exact H1.out.ok.lens _ (List.getElem_mem _)) (by
      intro hx;obtain ⟨p, hp, hpe⟩ := List.mem_map.1 hx;have : (st1.L.any fun p => p.1 == n) = true := List.any_eq_true.2 ⟨p, hp, by simpa using hpe⟩;rw [hall.out] at this
      cases this)
     obtain ⟨e0, e1, _, _⟩ := H2.cells;have e1f := H2.free 1;obtain ⟨e2, _⟩ := H2.sec2 hm'.out n hn;rw [HX.out] at e2;obtain ⟨r0, _, _, _⟩ := GR.cells;obtain ⟨r2, r3⟩ := GR.sec2 (show _ = m from hm'.out) n hn;rw [show Str (({ st1 with L := st1.L ++ [(n, st1.S.getD n [])] } : DkS).S.getD n []) = X from HX.out] at r2;obtain ⟨k0, k1, _, _⟩ := hK1.cells;obtain ⟨k2, _⟩ := hK1.sec2 hm'.out n hn;rw [HX.out] at k2;rw [← hW1] at k0 k1 k2 hap
     have FINeq : ({ st1 with L := st1.L ++ [(n, st1.S.getD n [])], S := st1.S.set n s.data.toList } : DkS) = st.wrote n s.data.toList := by
      rw [WN.out (by rw [← hL1'.out]; exact hall.out), ← hS1'.out, ← hL1'.out, ← hst1'.out]
     have FIN : Hid (RkPost w x (st.wrote n s.data.toList) F ((w2.setCell ⟨x, 1, none⟩ (.slice (some ⟨N1, 0, none⟩) (q + 1) c')).setCell ⟨g, n, none⟩ (.string s))) := Hd (by
      rw [← FINeq];have hF2 : Frm F w w2 := HF.out.trans (G := fun _ => False) (Frm.of_below hB2) (fun _ hx => hx.elim);refine RkPost.of (GR.setSec2 (show _ = m from hm'.out) n s hs) ((hF2.setCell ⟨x, 1, none⟩ _ (.inl hxF)).setCell ⟨g, n, none⟩ _ (.inl (hFs.out g (.inr (.inl rfl))))) (fun k hk => ?_)
      rcases hk with hk | hk | hk
      ·exact .inl (hFs.out k (.inl hk))
      ·exact .inl (hFs.out k (.inr (.inl hk)))
      ·have hk : N1 = k := Option.some.inj hk
       exact .inr (by have := HF.out.size; omega))
     have hxr := H1.out.lt x (.inl rfl);clear hB1 hK1 hcut hB2 H2 GR FINeq how hb2 hW1 hN1 hall hb0
     rcases va with _ | ⟨vb, vo, vp⟩
     ·obtain ⟨hq0, hvc0⟩ := H1.out.caps0 hq'.out
      subst hq0 hvc0;go_wp2_with fail;refine region_ways (fun w' => w'.cell? ⟨x, 0, none⟩ = some (.slice (some ⟨g, 0, none⟩) m cap) ∧ w'.cell? ⟨x, 1, none⟩ = some (.slice none 0 0) ∧ w'.cell? ⟨g, n, none⟩ = some (.string X)) 29 (by kernel_rfl) ?_;have HS : wr.drew.cell? ⟨x, 0, none⟩ = some (.slice (some ⟨g, 0, none⟩) m cap) ∧ wr.drew.cell? ⟨x, 1, none⟩ = some (.slice none 0 0) ∧ wr.drew.cell? ⟨g, n, none⟩ = some (.string X) := ⟨d0, d1, cs⟩
      refine Ws 0 (.pointer (some ⟨x, 0, none⟩)) HS ?_ ?_
      ·intro w9
       go_simp
      simp only [Act.put, SL];refine Ws 1 (.pointer (some ⟨x, 0, none⟩)) HS ?_ ?_
      ·intro w9
       go_simp
      simp only [Act.put, SL];refine Ws 2 (.pointer (some ⟨x, 0, none⟩)) HS ?_ ?_
      ·intro w9
       go_simp
      simp only [Act.put, SL];refine Ws 3 (.pointer (some ⟨x, 1, none⟩)) HS ?_ ?_
      ·intro w9
       go_simp
      simp only [Act.put, SL];refine Wt 4 (.slice none 0 0) HS ?_ ?_
      ·rintro w9 ⟨s0, s1, s2⟩
       go_simp
      simp only [Act.put, SL];refine Ws 5 (.pointer (some ⟨x, 0, none⟩)) HS ?_ ?_
      ·intro w9
       go_simp
      simp only [Act.put, SL];refine Ws 6 (.pointer (some ⟨x, 0, none⟩)) HS ?_ ?_
      ·intro w9
       go_simp
      simp only [Act.put, SL];refine Ws 7 (.pointer (some ⟨x, 1, none⟩)) HS ?_ ?_
      ·intro w9
       go_simp
      simp only [Act.put, SL];refine Wt 8 (.slice none 0 0) HS ?_ ?_
      ·rintro w9 ⟨s0, s1, s2⟩
       go_simp
      simp only [Act.put, SL];refine Ws 9 (.int .i64 0) HS ?_ ?_
      ·intro w9
       go_simp
      simp only [Act.put, SL];refine Ws 10 (.pointer (some ⟨x, 0, none⟩)) HS ?_ ?_
      ·intro w9
       go_simp
      simp only [Act.put, SL];refine Ws 11 (.pointer (some ⟨x, 0, none⟩)) HS ?_ ?_
      ·intro w9
       go_simp
      simp only [Act.put, SL];refine Ws 12 (.pointer (some ⟨x, 1, none⟩)) HS ?_ ?_
      ·intro w9
       go_simp
      simp only [Act.put, SL];refine Wt 13 (.slice none 0 0) HS ?_ ?_
      ·rintro w9 ⟨s0, s1, s2⟩
       go_simp
      simp only [Act.put, SL];refine Ws 14 (.int .i64 0) HS ?_ ?_
      ·intro w9
       go_simp
      simp only [Act.put, SL];refine Ws 15 (.slice none 0 0) HS ?_ ?_
      ·intro w9
       go_simp
      simp only [Act.put, SL];refine Ws 16 (.int .i64 (n : Int)) HS ?_ ?_
      ·intro w9
       go_simp
      simp only [Act.put, SL];refine Ws 17 (.pointer (some ⟨x, 0, none⟩)) HS ?_ ?_
      ·intro w9
       go_simp
      simp only [Act.put, SL];refine Ws 18 (.pointer (some ⟨x, 0, none⟩)) HS ?_ ?_
      ·intro w9
       go_simp
      simp only [Act.put, SL];refine Ws 19 (.pointer (some ⟨x, 0, none⟩)) HS ?_ ?_
      ·intro w9
       go_simp
      simp only [Act.put, SL];refine Wt 20 (.slice (some ⟨g, 0, none⟩) m cap) HS ?_ ?_
      ·rintro w9 ⟨s0, s1, s2⟩
       go_simp
      simp only [Act.put, SL];refine Ws 21 (.int .i64 (n : Int)) HS ?_ ?_
      ·intro w9
       go_simp
      simp only [Act.put, SL];refine Ws 22 (.pointer (some ⟨g, n, none⟩)) HS ?_ ?_
      ·intro w9
       go_simp
      simp only [Act.put, SL];refine Wt 23 (.string X) HS ?_ ?_
      ·rintro w9 ⟨s0, s1, s2⟩
       go_simp
      simp only [Act.put, SL];refine Ws 24 (.agg #[.int .i64 (n : Int), .string X]) HS ?_ ?_
      ·intro w9
       go_simp
      simp only [Act.put, SL];refine Wp 25 (fun K HK => ?_);go_simp;refine HK.out _ _ ?_ (fun _ => ⟨k0, k1, k2⟩);clear HK K;refine Wp 26 (fun K HK => ?_);refine step_append_run (by rfl) (.tmp 91) (.tmp 101) 165 (by rfl) _ _ _ (by rfl) (by rfl) hap ?_;refine HK.out _ _ ?_ (fun _ => ⟨e0, e1, e2⟩);clear HK K;simp only [Act.put, SL];have HS2 : w2.cell? ⟨x, 0, none⟩ = some (.slice (some ⟨g, 0, none⟩) m cap) ∧ w2.cell? ⟨x, 1, none⟩ = some (.slice none 0 0) ∧ w2.cell? ⟨g, n, none⟩ = some (.string X) := ⟨e0, e1, e2⟩
      refine Ws 27 (.pointer (some ⟨x, 0, none⟩)) HS2 ?_ ?_
      ·intro w9
       go_simp
      simp only [Act.put, SL];refine Ws 28 (.pointer (some ⟨x, 1, none⟩)) HS2 ?_ ?_
      ·intro w9
       go_simp
      simp only [Act.put, SL];refine Wp 29 (fun K HK => ?_);go_simp;refine HK.out _ _ ?_ (fun h => absurd rfl h);clear HK K;refine ways_done (by kernel_rfl) ?_;go_wp2_with fail;go_ret;exact ⟨rfl, FIN.out⟩
     ·have hqv := H1.out.caps
      go_wp2_with fail;refine region_ways (fun w' => w'.cell? ⟨x, 0, none⟩ = some (.slice (some ⟨g, 0, none⟩) m cap) ∧ w'.cell? ⟨x, 1, none⟩ = some (.slice (some ⟨vb, vo, vp⟩) q vc) ∧ w'.cell? ⟨g, n, none⟩ = some (.string X)) 29 (by kernel_rfl) ?_;have HS : wr.drew.cell? ⟨x, 0, none⟩ = some (.slice (some ⟨g, 0, none⟩) m cap) ∧ wr.drew.cell? ⟨x, 1, none⟩ = some (.slice (some ⟨vb, vo, vp⟩) q vc) ∧ wr.drew.cell? ⟨g, n, none⟩ = some (.string X) := ⟨d0, d1, cs⟩
      refine Ws 0 (.pointer (some ⟨x, 0, none⟩)) HS ?_ ?_
      ·intro w9
       go_simp
      simp only [Act.put, SL];refine Ws 1 (.pointer (some ⟨x, 0, none⟩)) HS ?_ ?_
      ·intro w9
       go_simp
      simp only [Act.put, SL];refine Ws 2 (.pointer (some ⟨x, 0, none⟩)) HS ?_ ?_
      ·intro w9
       go_simp
      simp only [Act.put, SL];refine Ws 3 (.pointer (some ⟨x, 1, none⟩)) HS ?_ ?_
      ·intro w9
       go_simp
      simp only [Act.put, SL];refine Wt 4 (.slice (some ⟨vb, vo, vp⟩) q vc) HS ?_ ?_
      ·rintro w9 ⟨s0, s1, s2⟩
       go_simp
      simp only [Act.put, SL];refine Ws 5 (.pointer (some ⟨x, 0, none⟩)) HS ?_ ?_
      ·intro w9
       go_simp
      simp only [Act.put, SL];refine Ws 6 (.pointer (some ⟨x, 0, none⟩)) HS ?_ ?_
      ·intro w9
       go_simp
      simp only [Act.put, SL];refine Ws 7 (.pointer (some ⟨x, 1, none⟩)) HS ?_ ?_
      ·intro w9
       go_simp
      simp only [Act.put, SL];refine Wt 8 (.slice (some ⟨vb, vo, vp⟩) q vc) HS ?_ ?_
      ·rintro w9 ⟨s0, s1, s2⟩
       go_simp
      simp only [Act.put, SL];refine Ws 9 (.int .i64 (q : Int)) HS ?_ ?_
      ·intro w9
       go_simp
      simp only [Act.put, SL];refine Ws 10 (.pointer (some ⟨x, 0, none⟩)) HS ?_ ?_
      ·intro w9
       go_simp
      simp only [Act.put, SL];refine Ws 11 (.pointer (some ⟨x, 0, none⟩)) HS ?_ ?_
      ·intro w9
       go_simp
      simp only [Act.put, SL];refine Ws 12 (.pointer (some ⟨x, 1, none⟩)) HS ?_ ?_
      ·intro w9
       go_simp
      simp only [Act.put, SL];refine Wt 13 (.slice (some ⟨vb, vo, vp⟩) q vc) HS ?_ ?_
      ·rintro w9 ⟨s0, s1, s2⟩
       go_simp
      simp only [Act.put, SL];refine Ws 14 (.int .i64 (q : Int)) HS ?_ ?_
      ·intro w9
       go_simp
      simp only [Act.put, SL];refine Ws 15 (.slice (some ⟨vb, vo, vp⟩) q q) HS ?_ ?_
      ·intro w9
       go_simp
      simp only [Act.put, SL];refine Ws 16 (.int .i64 (n : Int)) HS ?_ ?_
      ·intro w9
       go_simp
      simp only [Act.put, SL];refine Ws 17 (.pointer (some ⟨x, 0, none⟩)) HS ?_ ?_
      ·intro w9
       go_simp
      simp only [Act.put, SL];refine Ws 18 (.pointer (some ⟨x, 0, none⟩)) HS ?_ ?_
      ·intro w9
       go_simp
      simp only [Act.put, SL];refine Ws 19 (.pointer (some ⟨x, 0, none⟩)) HS ?_ ?_
      ·intro w9
       go_simp
      simp only [Act.put, SL];refine Wt 20 (.slice (some ⟨g, 0, none⟩) m cap) HS ?_ ?_
      ·rintro w9 ⟨s0, s1, s2⟩
       go_simp
      simp only [Act.put, SL];refine Ws 21 (.int .i64 (n : Int)) HS ?_ ?_
      ·intro w9
       go_simp
      simp only [Act.put, SL];refine Ws 22 (.pointer (some ⟨g, n, none⟩)) HS ?_ ?_
      ·intro w9
       go_simp
      simp only [Act.put, SL];refine Wt 23 (.string X) HS ?_ ?_
      ·rintro w9 ⟨s0, s1, s2⟩
       go_simp
      simp only [Act.put, SL];refine Ws 24 (.agg #[.int .i64 (n : Int), .string X]) HS ?_ ?_
      ·intro w9
       go_simp
      simp only [Act.put, SL];refine Wp 25 (fun K HK => ?_);go_simp;refine HK.out _ _ ?_ (fun _ => ⟨k0, k1, k2⟩);clear HK K;refine Wp 26 (fun K HK => ?_);refine step_append_run (by rfl) (.tmp 91) (.tmp 101) 165 (by rfl) _ _ _ (by rfl) (by rfl) hap ?_;refine HK.out _ _ ?_ (fun _ => ⟨e0, e1, e2⟩);clear HK K;simp only [Act.put, SL];have HS2 : w2.cell? ⟨x, 0, none⟩ = some (.slice (some ⟨g, 0, none⟩) m cap) ∧ w2.cell? ⟨x, 1, none⟩ = some (.slice (some ⟨vb, vo, vp⟩) q vc) ∧ w2.cell? ⟨g, n, none⟩ = some (.string X) := ⟨e0, e1, e2⟩
      refine Ws 27 (.pointer (some ⟨x, 0, none⟩)) HS2 ?_ ?_
      ·intro w9
       go_simp
      simp only [Act.put, SL];refine Ws 28 (.pointer (some ⟨x, 1, none⟩)) HS2 ?_ ?_
      ·intro w9
       go_simp
      simp only [Act.put, SL];refine Wp 29 (fun K HK => ?_);go_simp;refine HK.out _ _ ?_ (fun h => absurd rfl h);clear HK K;refine ways_done (by kernel_rfl) ?_;go_wp2_with fail;go_ret;exact ⟨rfl, FIN.out⟩
    ·obtain ⟨cs, fs⟩ := H1.out.sec2 hm'.out n hn
     have FINeq : ({ st1 with S := st1.S.set n s.data.toList } : DkS) = st.wrote n s.data.toList := by rw [WM.out (by rw [← hL1'.out]; exact hall.out), ← hS1'.out, ← hst1'.out]
     have FIN : Hid (RkPost w x (st.wrote n s.data.toList) F (wr.setCell ⟨g, n, none⟩ (.string s))) := Hd (by
      rw [← FINeq];exact RkPost.of (H1.out.setSec2 hm'.out n s hs) (HF.out.setCell _ _ (.inl (hFs.out g (.inr (.inl rfl))))) (fun k hk => .inl (hFs.out k hk)))
     clear FINeq;go_wp2_with fail;go_ret;exact ⟨rfl, FIN.out⟩
theorem refWrite_any (w : World) (x : Nat) (st : DkS) (F : Nat → Prop) (h : Rk w x st F) (i : Int) (s : ByteArray) :
  Calls Tryz.prog 103 #[.pointer (some ⟨x, 0, none⟩), .int .i64 i, .string s] w fun e w' => e = .returned (.int .i64 (st.write i s.data.toList).2) ∧ RkPost w x (st.write i s.data.toList).1 F w' := by
 have hl : s.data.toList.length = s.size := by simp
 unfold DkS.write;rw [hl]
 cases hu : st.up
 ·rw [if_pos rfl]
  exact (refWrite_down w x st F h i s hu).mono fun e w' hw => ⟨hw.1, hw.2 ▸ RkPost.same h⟩
 ·rw [if_neg (by simp)]
  cases hc : (decide (0 ≤ i) && decide (i < (st.S.length : Int)) && decide (s.size = 256))
  ·rw [if_pos rfl]
   refine (refWrite_arg w x st F h i s hu ?_).mono fun e w' hw => ⟨hw.1, hw.2 ▸ RkPost.same h⟩
   by_cases h0 : i < 0
   ·exact .inl h0
   ·by_cases h1 : (st.S.length : Int) ≤ i
    ·exact .inr (.inl ⟨by omega, h1⟩)
    ·refine .inr (.inr ⟨by omega, by omega, ?_⟩)
     have hs : ¬ s.size = 256 := fun e => by
      rw [decide_eq_true (show 0 ≤ i by omega), decide_eq_true (show i < (st.S.length : Int) by omega), decide_eq_true e] at hc
      cases hc
     have h2 : ((s.size : Int) == 256) = false := by simpa using (fun e : (s.size : Int) = 256 => hs (by omega))
     simp [bne, h2]
  ·rw [if_neg (by simp)]
   simp only [Bool.and_eq_true, decide_eq_true_eq] at hc;obtain ⟨n, rfl⟩ := Int.eq_ofNat_of_zero_le hc.1.1
   by_cases hf : st.fuse = 0
   ·rw [if_pos hf]
    exact refWrite_blown w x st F h n s hu (by omega) hc.2 hf
   ·rw [if_neg hf]
    exact refWrite_yes w x st F h n s hu (by omega) hc.2 hf
def RMade (w : World) (st : DkS) (e : Ending) (w' : World) : Prop := ∃ (x : Nat) (F : Nat → Prop), e = .returned (.pointer (some ⟨x, 0, none⟩)) ∧ Rk w' x st F ∧ Below w.heap.size w w' ∧ ∀ k, F k → w.heap.size ≤ k
theorem str_info : ∃ i, Tryz.prog.info? 9 = some i ∧ i.zero = some (.string ByteArray.empty) ∧ i.size = 1 ∧ i.bytes = 16 := by
 have : (Tryz.prog.info? 9).map (fun i => (i.zero, i.size, i.bytes)) = some (some (.string ByteArray.empty), 1, 16) := by kernel_rfl
 cases hq : Tryz.prog.info? 9 with
 | none => rw [hq] at this; cases this
 | some i =>
  rw [hq] at this;simp only [Option.map_some, Option.some.injEq, Prod.mk.injEq] at this;exact ⟨i, rfl, this.1, this.2.1, this.2.2⟩
structure Making (w wr : World) (x : Nat) (vs : Value) (j : Nat) (Z : ByteArray) : Prop where
 cell : wr.heap[x]? = some (.cells #[vs, .slice none 0 0, .int .i64 (-1), .bool false] 167 (0, 0))
 row : wr.ownsRow (x + 1) 9 1 vs j (List.replicate j (.string Z))
 frm : Frm (fun _ => False) w wr
 hx : w.heap.size ≤ x
theorem Making.step {w wr : World} {x : Nat} {vs : Value} {j : Nat} {Z : ByteArray} (h : Making w wr x vs j Z) (hj : j ≤ 640) (w2 : World) (hb : Below wr.heap.size wr w2) :
  ∃ v' w5, (Builtin.append_ #[95, 95] 95 #[vs, .slice (some ⟨w2.heap.size, 0, none⟩) 1 1]).run Tryz.prog (w2.alloc (.cells #[.string Z] 9)) = .ok v' w5 ∧
   w5.cell? ⟨x, 0, none⟩ = some vs ∧ w5.frozen? ⟨x, 0, none⟩ = false ∧ Making w (w5.setCell ⟨x, 0, none⟩ v') x v' (j + 1) Z := by
 obtain ⟨i, hi, hz, hsize, hby⟩ := str_info;have hxl : x < wr.heap.size := (Array.getElem?_eq_some_iff.1 h.cell).1;obtain ⟨w4, hw4⟩ : ∃ w4, w2.alloc (.cells #[.string Z] 9) = w4 := ⟨_, rfl⟩
 have hb4 : Below wr.heap.size wr w4 := by rw [← hw4]; exact hb.alloc hb.size _
 have hrow : w4.ownsRow (x + 1) 9 1 vs j (List.replicate j (.string Z)) := ownsRow_keptN h.row fun k hk => hb4.block k (h.row.lt k hk).2
 have hnews : ∀ k u, [Value.string Z][k]? = some u → w4.cell? ((⟨w2.heap.size, 0, none⟩ : Addr).add k) = some u := by
  intro k u hk
  cases k with
  | zero =>
   rw [addr_add, ← hw4, World.cell?_alloc_new]
   simpa using hk
  | succ k => simp at hk
 obtain ⟨v', w5, hr, ho, hg, hnil⟩ := run_append_own (P := Tryz.prog) w4 (x + 1) 95 95 9 i _ 1 16 Tryz.underlying95 hi hz hsize hby rfl (by decide) vs j _ hrow ⟨w2.heap.size, 0, none⟩ 1 1 [.string Z] rfl hnews (by intro u hu; rw [List.mem_singleton.1 hu]; rfl) (by unfold maxLen; omega) (by omega) (by have := hb4.size; omega);have hvx : ∀ k, vs.ownBlock = some k → x + 1 ≤ k := fun k hk => (h.row.lt k hk).1
 have hc5 : w5.heap[x]? = some (.cells #[vs, .slice none 0 0, .int .i64 (-1), .bool false] 167 (0, 0)) := by
  rw [hg.block x (by have := hb4.size; omega) (fun e => by have := hvx x e.symm; omega), hb4.block x hxl];exact h.cell
 refine ⟨v', w5, by rw [hw4]; exact hr, by rw [cell_of_row w5 x 0 _ _ _ hc5]; rfl, frozen_of_row w5 x 0 _ _ hc5, ?_, ?_, ?_, h.hx⟩
 ·rw [heap_setCell_same w5 x 0 _ _ _ hc5]
  rfl
 ·have := ownsRow_keptN (w' := w5.setCell ⟨x, 0, none⟩ v') ho fun k hk => heap_setCell_other _ _ k _ (fun e => by
   have h1 := (ho.lt k hk).1;have e : k = x := e;omega)
  rw [List.replicate_succ'];exact this
 ·refine Frm.setCell (Frm.grown (h.frm.trans (G := fun _ => False) (Frm.of_below hb4) fun _ hx => hx.elim) hg fun k hk => .inr ?_) _ _ (.inr h.hx)
  have := hvx k hk;have := h.hx;omega
theorem Making.done {w wr : World} {x : Nat} {vs : Value} {n : Nat} {Z : ByteArray} (h : Making w wr x vs n Z) (hZ : Str zs = Z) (h8 : 8 ≤ n) (hn : n ≤ 640) : RMade w (DkS.fresh n) (.returned (.pointer (some ⟨x, 0, none⟩))) wr := by
 have hx := h.hx;have hvx : ∀ k, vs.ownBlock = some k → x + 1 ≤ k := fun k hk => (h.row.lt k hk).1
 refine ⟨x, RkF x vs (.slice none 0 0), rfl, ⟨vs, _, ?_, fun _ => Iff.rfl⟩, h.frm.below (fun _ hx => hx.elim) (Nat.le_refl _), fun k hk => ?_⟩
 ·refine ⟨h.cell, ?_, World.ownsRow_nil _ _ _ _, (fun e => by have := hvx x e; omega), (fun e => by cases e), (fun k _ e => by cases e), fresh_ok n h8 hn⟩
  have := ownsRow_base h.row;have e1 : (DkS.fresh n).S.length = n := List.length_replicate
  have e2 : ((DkS.fresh n).S.map fun s => Value.string (Str s)) = List.replicate n (.string Z) := by
   show (List.replicate n zs).map _ = _
   rw [List.map_replicate, hZ]
  rw [e1, e2];exact this
 ·rcases hk with rfl | hk | hk
  ·exact hx
  ·have := hvx k hk; omega
  ·cases hk
theorem refNew_yes (w : World) (n : Nat) (h8 : 8 ≤ n) (hn : n ≤ 640) :
  Calls Tryz.prog 71 #[.int .i64 (n : Int)] w (RMade w (DkS.fresh n)) := by
 obtain ⟨Z, HZ⟩ : ∃ Z, Hid (Str zs = Z) := ⟨_, Hd rfl⟩
 have hni : (n : Int) ≤ 640 := by omega
 have hn8 : 8 ≤ (n : Int) := by omega
 obtain ⟨x, hx⟩ : ∃ x, w.heap.size = x := ⟨_, rfl⟩
 have M0 : Hid (Making w (w.alloc (.cells #[.slice none 0 0, .slice none 0 0, .int .i64 (-1), .bool false] 167)) x (.slice none 0 0) 0 Z) := Hd ⟨by rw [← hx]; exact heap_alloc_new _ _, World.ownsRow_nil _ _ _ _, (Frm.refl _ _).alloc _, by omega⟩;go_enter Tryz.func71, Tryz.ntmps71;go_wp2_with fail
 go_loopw [4] (fun i wr => ∃ (j : Nat) (vs : Value), j ≤ n ∧ i = .int .i64 (j : Int) ∧ Hid (Making w wr x vs j Z)) (fun i _ => n + 1 - (intOf i).toNat)
 case atStart => exact ⟨0, _, by omega, rfl, M0⟩
 case round =>
  obtain ⟨j, vs, hj, rfl, HM⟩ := hrel
  by_cases hlt : j < n
  ·have hji : (j : Int) < (n : Int) := by omega
   have c0 : wr.cell? ⟨x, 0, none⟩ = some vs := by rw [cell_of_row wr x 0 _ _ _ HM.out.cell]; rfl
   obtain ⟨w2, hmk, hrow, hbel⟩ := made_bytes wr.drew 256 256 (Nat.le_refl _) (by decide);have hmk' : (Instr.makeSlice 62 (.int .i64 256) (.int .i64 256)).run Tryz.prog wr.drew = .ok (.slice (some ⟨wr.heap.size, 0, none⟩) 256 256) w2 := hmk;have hcv := hrow.conv 256 256 (by rw [List.length_replicate]; exact Nat.le_refl _)
   have hz2 : Str ((List.replicate 256 (0 : UInt8)).take 256) = Z := by
    rw [List.take_of_length_le (by rw [List.length_replicate]; exact Nat.le_refl _)];exact HZ.out
   rw [hz2] at hcv;have hcv' : (convert 62 9 (.slice (some ⟨wr.heap.size, 0, none⟩) 256 256)).run Tryz.prog w2 = .ok (.string Z) w2 := hcv;have hb2 : Below wr.heap.size wr w2 := (Below.refl _ wr).drew.trans hbel;obtain ⟨v', w5, hap, c5, f5, HM5⟩ := HM.out.step (by omega) w2 hb2
   obtain ⟨kb, kc, rfl⟩ : ∃ kb kc, v' = .slice (some ⟨kb, 0, none⟩) (j + 1) kc := by
    rcases HM5.row.2 with ⟨_, h2⟩ | ⟨kb, kc, cur, hv, _⟩
    ·omega
    ·exact ⟨kb, kc, hv⟩
   have HM6 := Hd HM5;have hxl : x < wr.heap.size := (Array.getElem?_eq_some_iff.1 HM.out.cell).1;have k2 : w2.cell? ⟨x, 0, none⟩ = some vs := by rw [World.cell?_of_block (hb2.block x hxl)]; exact c0
   have k3 : (w2.alloc (.cells #[.string Z] 9)).cell? ⟨x, 0, none⟩ = some vs := by
    rw [World.cell?_of_block ((hb2.alloc hb2.size _).block x hxl)]; exact c0
   clear hmk hrow hbel hcv hz2 hb2 HM5 hx;go_wp2_with fail;refine region_ways (fun w' => w'.cell? ⟨x, 0, none⟩ = some vs) 11 (by kernel_rfl) ?_;have HS : wr.drew.cell? ⟨x, 0, none⟩ = some vs := c0;refine Ws 0 (.pointer (some ⟨x, 0, none⟩)) HS ?_ ?_
   ·intro w9
    go_simp
   simp only [Act.put, SL];refine Ws 1 (.pointer (some ⟨x, 0, none⟩)) HS ?_ ?_
   ·intro w9
    go_simp
   simp only [Act.put, SL];refine Ws 2 (.pointer (some ⟨x, 0, none⟩)) HS ?_ ?_
   ·intro w9
    go_simp
   simp only [Act.put, SL];refine Ws 3 (.pointer (some ⟨x, 0, none⟩)) HS ?_ ?_
   ·intro w9
    go_simp
   simp only [Act.put, SL];refine Wt 4 (vs) HS ?_ ?_
   ·intro w9 s0
    go_simp
   simp only [Act.put, SL];refine Wp 5 (fun K HK => ?_);go_simp;refine HK.out _ _ ?_ (fun _ => k2);clear HK K;refine Wp 6 (fun K HK => ?_);go_simp;refine HK.out _ _ ?_ (fun _ => k2);clear HK K;refine Wp 7 (fun K HK => ?_);go_simp;refine HK.out _ _ ?_ (fun _ => k3);clear HK K;refine Wp 8 (fun K HK => ?_);refine step_append_run (by rfl) (.tmp 22) (.tmp 25) 95 (by rfl) _ _ _ (by rfl) (by rfl) hap ?_;refine HK.out _ _ ?_ (fun _ => c5);clear HK K;simp only [Act.put, SL];refine Ws 9 (.pointer (some ⟨x, 0, none⟩)) c5 ?_ ?_
   ·intro w9
    go_simp
   simp only [Act.put, SL];refine Ws 10 (.pointer (some ⟨x, 0, none⟩)) c5 ?_ ?_
   ·intro w9
    go_simp
   simp only [Act.put, SL];refine Wp 11 (fun K HK => ?_);go_simp;refine HK.out _ _ ?_ (fun h => absurd rfl h);clear HK K;refine ways_done (by kernel_rfl) ?_;go_wp2_with fail;go_roundw
   case rel => exact ⟨j + 1, _, by omega, by go_num, HM6⟩
   case measure => simp [intOf]; omega
  ·have hji : ¬ (j : Int) < (n : Int) := by omega
   have FIN := Hd (Making.done (by have := HM.out; rw [show j = n by omega] at this; exact this) HZ.out h8 hn);go_wp2_with fail;go_ret;exact FIN.out
theorem RkIn.setNil {w : World} {x : Nat} {vs vl : Value} {st : DkS} (h : RkIn w x vs vl st) : RkIn (w.setCell ⟨x, 1, none⟩ (.slice none 0 0)) x vs (.slice none 0 0) { st with L := [] } :=
  ⟨by rw [heap_setCell_same w x 1 _ _ _ h.cell]; rfl, ownsRow_keptN h.secs fun k hk => heap_setCell_other _ _ k _ (fun e => h.sx (by rw [hk, e])), World.ownsRow_nil _ _ _ _, h.sx, (fun e => by cases e), (fun k _ e => by cases e),
   { lens := h.ok.lens, had := fun p hp => (by cases hp), keys := List.nodup_nil, few := h.ok.few, least := h.ok.least, fuse0 := h.ok.fuse0, fuse1 := h.ok.fuse1 }⟩
theorem refSync_any (w : World) (x : Nat) (st : DkS) (F : Nat → Prop) (h : Rk w x st F) :
    Calls Tryz.prog 75 #[.pointer (some ⟨x, 0, none⟩)] w fun e w' => e = .returned (.int .i64 st.sync.2) ∧ RkPost w x st.sync.1 F w' := by
  obtain ⟨vs, vl, hi, he⟩ := h;obtain ⟨_, c1, _, c3⟩ := hi.cells;have f1 := hi.free 1;unfold DkS.sync
  cases hu : st.up
  · rw [if_pos rfl];rw [hu] at c3;have FIN := Hd (RkPost.same ⟨vs, vl, hi, he⟩);clear hi he hu;go_enter Tryz.func75, Tryz.ntmps75;go_wp2_with fail;go_ret;exact ⟨rfl, FIN.out⟩
  · rw [if_neg (by decide)];rw [hu] at c3
    have FIN0 : Hid (RkPost w x { st with L := [] } F (w.setCell ⟨x, 1, none⟩ (.slice none 0 0))) := Hd (RkPost.of hi.setNil ((Frm.refl _ _).setCell _ _ (.inl ((he x).2 (.inl rfl)))) (fun k hk => by
      rcases hk with hk | hk | hk
      · exact .inl ((he k).2 (.inl hk))
      · exact .inl ((he k).2 (.inr (.inl hk)))
      · cases hk))
    have FIN : Hid (RkPost w x { S := st.S, L := [], fuse := st.fuse, up := true } F (w.setCell ⟨x, 1, none⟩ (.slice none 0 0))) := Hd (by have := FIN0.out; rw [hu] at this; exact this);clear hi he hu FIN0;go_enter Tryz.func75, Tryz.ntmps75;go_wp2_with fail;go_ret;exact ⟨rfl, FIN.out⟩
theorem Rk.keptB {w w' : World} {x : Nat} {st : DkS} {F : Nat → Prop} (h : Rk w x st F) (hk : ∀ k, F k → w'.heap[k]? = w.heap[k]?) : Rk w' x st F := by
  obtain ⟨vs, vl, hi, he⟩ := h;exact ⟨vs, vl, hi.kept fun k hF => hk k ((he k).2 hF), he⟩
theorem Rk.ltB {w : World} {x : Nat} {st : DkS} {F : Nat → Prop} (h : Rk w x st F) (k : Nat) (hk : F k) : k < w.heap.size := by
  obtain ⟨vs, vl, hi, he⟩ := h;exact hi.lt k ((he k).1 hk)
end Go.Proofs.YtmomlhiokggfbaaGreatDoor
