/-
  Package shadow: the head behind this one.
-/
import Derived.Test.YtbjmbndeaobbeaaDoorShM4
import Derived.Test.YtbjmbndeaobbeaaDoorShBits
namespace Go.Proofs.YtbjmbndeaobbeaaDoor
open Go.RowKit
set_option linter.unusedVariables false
set_option linter.unusedSimpArgs false
def leftLen (w : World) (r m : Nat) : Nat :=
  match w.heap[m]?, w.heap[r]? with
  | some (.map es _), some (.mapIter _ _ seen _) => (leftOf es seen).size
  | _, _ => 0
theorem RangeS.len {w : World} {r m : Nat} {L left : List Int} (h : RangeS w r m L left) : leftLen w r m = left.length := by
  obtain ⟨es, c, s, sn, l, h1, h2, h3, h4, h5, h6, h6', h7⟩ := h
  unfold leftLen
  rw [h1, h4]
  have := congrArg List.length h7
  simpa using this
theorem filter_less {l : List Int} {n : Int} (h : n ∈ l) : (l.filter fun x => decide (x ≠ n)).length < l.length := by
  induction l with
  | nil => cases h
  | cons a l ih =>
    by_cases e : a = n
    · rw [List.filter_cons_of_neg (by simp [e])]
      have := List.length_filter_le (fun x => decide (x ≠ n)) l
      simp only [List.length_cons]; omega
    · rw [List.filter_cons_of_pos (by simpa using e)]
      have h2 : n ∈ l := by
        rcases List.mem_cons.1 h with h3 | h3
        · exact absurd h3.symm e
        · exact h3
      have := ih h2
      simp only [List.length_cons]; omega
def nextU (st : ShS) : ByteArray := withAll (withAll st.h.used st.fresh true) st.given false
def nextH (st : ShS) (root : Int) : HdS := ⟨st.h.gen + 1, root, nextU st⟩
/-- What has been put in, or taken out, when some are left to come. -/
def Part (u base : ByteArray) (L left : List Int) (on : Bool) : Prop := u.size = base.size ∧ ∀ i : Int, hasB u i = if i ∈ L ∧ i ∉ left then on else hasB base i
theorem Part.start (base : ByteArray) (L : List Int) (on : Bool) : Part base base L L on := ⟨rfl, fun i => by rw [if_neg (by simp)]⟩
theorem Part.step {u base : ByteArray} {L left : List Int} {on : Bool} (h : Part u base L left on) (n : Int) (hn : n ∈ left) (hL : n ∈ L) (hr : roomB base n = true) : Part (withB u n on) base L (left.filter fun x => decide (x ≠ n)) on := by
  refine ⟨(withB_size u n on).trans h.1, fun i => ?_⟩
  rw [has_with u n i on (by rw [room_size h.1]; exact hr)]
  by_cases e : i = n
  · subst e
    rw [if_pos rfl, if_pos ⟨hL, by simp⟩]
  · rw [if_neg e, h.2 i]
    by_cases h2 : i ∈ L ∧ i ∉ left
    · rw [if_pos h2, if_pos ⟨h2.1, fun hx => h2.2 (List.mem_filter.1 hx).1⟩]
    · rw [if_neg h2, if_neg (fun hx => h2 ⟨hx.1, fun hl => hx.2 (List.mem_filter.2 ⟨hl, by simpa using e⟩)⟩)]
theorem Part.done {u base : ByteArray} {L : List Int} {on : Bool} (h : Part u base L [] on) (hr : ∀ x ∈ L, roomB base x = true) : u = withAll base L on := by
  refine bits_ext (h.1.trans (withAll_size L on base).symm) fun i => ?_
  rw [h.2, has_withAll L on _ base hr]
  by_cases e : ((i : Nat) : Int) ∈ L
  · rw [if_pos ⟨e, by simp⟩, if_pos e]
  · rw [if_neg (fun hx => e hx.1), if_neg e]
theorem room80 {b : ByteArray} (h : b.size = 80) {x : Int} (h1 : 2 ≤ x) (h2 : x < 640) : roomB b x = true := (room_iff b x).2 ⟨by omega, by rw [h]; omega⟩
set_option maxHeartbeats 6400000 in
set_option maxRecDepth 20000 in
theorem next_is (w : World) (s d : Nat) (st : ShS) (F : Nat → Prop) (h : Sto w s d st F) (root : Int) (hg : st.h.gen ≤ 281474976710654) :
    Calls Tryd.prog 33 #[.pointer (some ⟨s, 0, none⟩), .int .i64 root] w fun e w' => e = .returned (hdV (nextH st root)) ∧ Below w.heap.size w w' := by
  obtain ⟨f0, g0, hi0, he0⟩ := h
  have W1 : Hid (∀ n u w', n < 9223372036854775808 → Calls Tryd.prog 46 #[.string u, .int .i64 n, .bool true] w' fun e w'' => e = .returned (.string (withB u n true)) ∧ Below w'.heap.size w' w'') := Lib.hid (fun n u w' hn => with_any u n true w' hn)
  have W2 : Hid (∀ n u w', n < 9223372036854775808 → Calls Tryd.prog 46 #[.string u, .int .i64 n, .bool false] w' fun e w'' => e = .returned (.string (withB u n false)) ∧ Below w'.heap.size w' w'') := Lib.hid (fun n u w' hn => with_any u n false w' hn)
  have CE := Lib.hid (fun w' (hb : Below w.heap.size w w') => (hi0.kept (fun k hk => hb.block k (hi0.lt k hk))).cells)
  have FF := Lib.hid (fun w' (hb : Below w.heap.size w w') => (hi0.kept (fun k hk => hb.block k (hi0.lt k hk))).fr)
  have GG := Lib.hid (fun w' (hb : Below w.heap.size w w') => (hi0.kept (fun k hk => hb.block k (hi0.lt k hk))).gv)
  have hfl := hi0.fr.lt
  have hgl := hi0.gv.lt
  have FB := Lib.hid hi0.fb
  have GB := Lib.hid hi0.gb
  have hu80 := hi0.ok.u
  have hg0 := hi0.ok.g0
  have RF := Lib.hid (fun x (hx : x ∈ st.fresh) => room80 hu80 (hi0.fb x hx).1 (hi0.fb x hx).2)
  have RG := Lib.hid (fun x (hx : x ∈ st.given) => room80 ((withAll_size st.fresh true st.h.used).trans hu80) (hi0.gb x hx).1 (hi0.gb x hx).2)
  have DF := Lib.hid (fun u (hp : Part u st.h.used st.fresh [] true) => hp.done RF.out)
  have DG := Lib.hid (fun u (hp : Part u (withAll st.h.used st.fresh true) st.given [] false) => hp.done RG.out)
  have X0 := Lib.hid (heap_alloc_new w (.cells #[.int .i64 0, .int .i64 0, .string ⟨#[]⟩] 54))
  have B0 := Lib.hid (below_made w (.cells #[.int .i64 0, .int .i64 0, .string ⟨#[]⟩] 54))
  obtain ⟨wa, hwa⟩ : ∃ wa, w.alloc (.cells #[.int .i64 0, .int .i64 0, .string ⟨#[]⟩] 54) = wa := ⟨_, rfl⟩
  have HNX : Hid (nextH st root = ⟨st.h.gen + 1, root, nextU st⟩) := Lib.hid rfl
  have HNU : Hid (nextU st = withAll (withAll st.h.used st.fresh true) st.given false) := Lib.hid rfl
  have hgw : IntKind.i64.wrap (st.h.gen + 1) = st.h.gen + 1 := by rw [IntKind.wrap_i64]; omega
  rw [hwa] at X0 B0
  obtain ⟨w1, hrun1, hr1, b1, sz1⟩ := rangeS (P := Tryd.prog) Tryd.underlying56 (FF.out wa B0.out)
  have R1 := Lib.hid hr1
  have B1 := Lib.hid (chain B0.out b1)
  have X1 := Lib.hid (kept X0.out b1)
  obtain ⟨x0, x1, x2, x3, x4, x5, x6⟩ := CE.out wa B0.out
  have hsa : wa.heap.size = w.heap.size + 1 := by rw [← hwa]; simp
  obtain ⟨r, hrr⟩ : ∃ r, wa.heap.size = r := ⟨_, rfl⟩
  have HRR : Hid (w.heap.size < r ∧ r < w1.heap.size) := Lib.hid (by omega)
  rw [hrr] at hrun1 R1
  have HWA := Lib.hid hwa
  unfold hdV
  clear hi0 he0 hr1 b1 sz1 hwa hsa hrr hu80
  go_enter Tryd.func33, Tryd.ntmps33
  go_upto_region 1 with fail
  rw [HWA.out]
  go_wp2_with fail
  clear x0 x1 x2 x3 x4 x5 x6 hrun1
  go_loopw [5] (fun u wr => ∃ left ub, u = .string ub ∧ RangeS wr r f0 st.fresh left ∧ Part ub st.h.used st.fresh left true ∧ Below w.heap.size w wr ∧ wr.heap[w.heap.size]? = some (.cells #[.int .i64 0, .int .i64 0, .string ⟨#[]⟩] 54)) (fun _ wr => leftLen wr r f0)
  case atStart => exact ⟨_, _, rfl, R1.out, Part.start _ _ _, B1.out, X1.out⟩
  case round =>
    obtain ⟨left, ub, rfl, hR, hP, hb, hX⟩ := hrel
    have hsub := hR.sub.1
    have hln := Lib.hid hR.len
    have PP := Lib.hid hP
    have BB := Lib.hid hb
    have XX := Lib.hid hX
    rcases nextS (P := Tryd.prog) hR 0 with ⟨rfl, hnx⟩ | ⟨n, hn, w2, hnx, hR2, hf2, hs2, hen⟩
    · have hue := DF.out ub hP
      subst hue
      obtain ⟨w3, hrun2, hr2, b2, sz2⟩ := rangeS (P := Tryd.prog) Tryd.underlying56 (GG.out wr hb)
      obtain ⟨x0, x1, x2, x3, x4, x5, x6⟩ := CE.out wr hb
      have R2 := Lib.hid hr2
      have B2 := Lib.hid (chain hb b2)
      have X2 := Lib.hid (kept hX b2)
      have hlw : w.heap.size < wr.heap.size := (Array.getElem?_eq_some_iff.1 hX).1
      obtain ⟨q, hqq⟩ : ∃ q, wr.heap.size = q := ⟨_, rfl⟩
      have HQQ : Hid (w.heap.size < q) := Lib.hid (by omega)
      rw [hqq] at hrun2 R2
      clear hR hP hb hX hr2 b2 sz2 hqq PP BB XX hsub hln hlw
      go_wp2_with fail
      clear x0 x1 x2 x3 x4 x5 x6 hrun2 hnx
      go_loopw [5] (fun u wr => ∃ left ub, u = .string ub ∧ RangeS wr q g0 st.given left ∧ Part ub (withAll st.h.used st.fresh true) st.given left false ∧ Below w.heap.size w wr ∧ wr.heap[w.heap.size]? = some (.cells #[.int .i64 0, .int .i64 0, .string ⟨#[]⟩] 54)) (fun _ wr => leftLen wr q g0)
      case atStart => exact ⟨_, _, rfl, R2.out, Part.start _ _ _, B2.out, X2.out⟩
      case round =>
        obtain ⟨left, ub, rfl, hR, hP, hb, hX⟩ := hrel
        have hsub := hR.sub.1
        have hln := Lib.hid hR.len
        have PP := Lib.hid hP
        have BB := Lib.hid hb
        have XX := Lib.hid hX
        rcases nextS (P := Tryd.prog) hR 0 with ⟨rfl, hnx⟩ | ⟨n, hn, w4, hnx, hR4, hf4, hs4, hen⟩
        · have hue := DG.out ub hP
          rw [← HNU.out] at hue
          subst hue
          obtain ⟨x0, x1, x2, x3, x4, x5, x6⟩ := CE.out _ hb
          have y0 : wr.cell? ⟨w.heap.size, 0, none⟩ = some (.int .i64 0) := by rw [Go.Joins.cell_of_block hX]; rfl
          have y1 : wr.cell? ⟨w.heap.size, 1, none⟩ = some (.int .i64 0) := by rw [Go.Joins.cell_of_block hX]; rfl
          have y2 : wr.cell? ⟨w.heap.size, 2, none⟩ = some (.string ⟨#[]⟩) := by rw [Go.Joins.cell_of_block hX]; rfl
          have f0' := Go.Joins.unfrozen_of_block hX 0
          have f1' := Go.Joins.unfrozen_of_block hX 1
          have f2' := Go.Joins.unfrozen_of_block hX 2
          have XR : (((wr.setCell ⟨w.heap.size, 0, none⟩ (.int .i64 (st.h.gen + 1))).setCell ⟨w.heap.size, 1, none⟩ (.int .i64 root)).setCell ⟨w.heap.size, 2, none⟩ (.string (nextU st))).heap[w.heap.size]? = some (.cells #[.int .i64 (st.h.gen + 1), .int .i64 root, .string (nextU st)] 54) := by
            rw [heap_setCell_same _ _ 2 _ _ _ (heap_setCell_same _ _ 1 _ _ _ (heap_setCell_same _ _ 0 _ _ _ hX))]
            rfl
          have Z0 : Hid ((((wr.setCell ⟨w.heap.size, 0, none⟩ (.int .i64 (st.h.gen + 1))).setCell ⟨w.heap.size, 1, none⟩ (.int .i64 root)).setCell ⟨w.heap.size, 2, none⟩ (.string (nextU st))).cell? ⟨w.heap.size, 0, none⟩ = some (.int .i64 (st.h.gen + 1))) := Lib.hid (by rw [Go.Joins.cell_of_block XR]; rfl)
          have Z1 : Hid ((((wr.setCell ⟨w.heap.size, 0, none⟩ (.int .i64 (st.h.gen + 1))).setCell ⟨w.heap.size, 1, none⟩ (.int .i64 root)).setCell ⟨w.heap.size, 2, none⟩ (.string (nextU st))).cell? ⟨w.heap.size, 1, none⟩ = some (.int .i64 root)) := Lib.hid (by rw [Go.Joins.cell_of_block XR]; rfl)
          have Z2 : Hid ((((wr.setCell ⟨w.heap.size, 0, none⟩ (.int .i64 (st.h.gen + 1))).setCell ⟨w.heap.size, 1, none⟩ (.int .i64 root)).setCell ⟨w.heap.size, 2, none⟩ (.string (nextU st))).cell? ⟨w.heap.size, 2, none⟩ = some (.string (nextU st))) := Lib.hid (by rw [Go.Joins.cell_of_block XR]; rfl)
          have FIN : Hid (Below w.heap.size w (((wr.setCell ⟨w.heap.size, 0, none⟩ (.int .i64 (st.h.gen + 1))).setCell ⟨w.heap.size, 1, none⟩ (.int .i64 root)).setCell ⟨w.heap.size, 2, none⟩ (.string (nextU st)))) := Lib.hid (((hb.setCell (Nat.le_refl _) _).setCell (Nat.le_refl _) _).setCell (Nat.le_refl _) _)
          clear hR hP hb hX hsub PP BB XX XR hln
          go_wp2_with fail
          exact bodyPost_ret (v := .agg #[.int .i64 (st.h.gen + 1), .int .i64 root, .string (nextU st)]) (by simp [results, Tryd.results33, go_sem, Z0.out, Z1.out, Z2.out]) rfl ⟨rfl, FIN.out⟩
        · have R4 := Lib.hid hR4
          have P4 := Lib.hid (hP.step n hn (hsub n hn) (RG.out n (hsub n hn)))
          have hgb := GB.out n (hsub n hn)
          have B4 : Hid (Below w.heap.size w w4) := Lib.hid (hb.trans (hf4.below (fun i hi => by have hi : i = q := hi; have := HQQ.out; omega) hb.size))
          have X4 : Hid (w4.heap[w.heap.size]? = some (.cells #[.int .i64 0, .int .i64 0, .string ⟨#[]⟩] 54)) := Lib.hid ((hf4.block _ (Array.getElem?_eq_some_iff.1 hX).1 (by show ¬ w.heap.size = q; have := HQQ.out; omega)).trans hX)
          have ML := Lib.hid (filter_less hn)
          clear hR hP hb hX hR4 hf4 hs4 hsub hn PP BB XX
          unfold unitV at hnx hen
          go_wp2_with fail
          refine (W2.out n ub w4 (by omega)).mono ?_
          rintro e w5 ⟨rfl, b5⟩
          have R5 := Lib.hid (R4.out.kept (b5.block _ R4.out.set.lt) (b5.block _ R4.out.lt))
          have B5 := Lib.hid (chain B4.out b5)
          have X5 := Lib.hid (kept X4.out b5)
          clear b5 hnx hen
          go_wp2_with fail
          go_roundw
          case rel => exact ⟨_, _, rfl, R5.out, P4.out, B5.out, X5.out⟩
          case measure => rw [R5.out.len, hln.out]; exact ML.out
    · have R4 := Lib.hid hR2
      have P4 := Lib.hid (hP.step n hn (hsub n hn) (RF.out n (hsub n hn)))
      have hgb := FB.out n (hsub n hn)
      have B4 : Hid (Below w.heap.size w w2) := Lib.hid (hb.trans (hf2.below (fun i hi => by have hi : i = r := hi; have := HRR.out; omega) hb.size))
      have X4 : Hid (w2.heap[w.heap.size]? = some (.cells #[.int .i64 0, .int .i64 0, .string ⟨#[]⟩] 54)) := Lib.hid ((hf2.block _ (Array.getElem?_eq_some_iff.1 hX).1 (by show ¬ w.heap.size = r; have := HRR.out; omega)).trans hX)
      have ML := Lib.hid (filter_less hn)
      clear hR hP hb hX hR2 hf2 hs2 hsub hn PP BB XX
      unfold unitV at hnx hen
      go_wp2_with fail
      refine (W1.out n ub w2 (by omega)).mono ?_
      rintro e w5 ⟨rfl, b5⟩
      have R5 := Lib.hid (R4.out.kept (b5.block _ R4.out.set.lt) (b5.block _ R4.out.lt))
      have B5 := Lib.hid (chain B4.out b5)
      have X5 := Lib.hid (kept X4.out b5)
      clear b5 hnx hen
      go_wp2_with fail
      go_roundw
      case rel => exact ⟨_, _, rfl, R5.out, P4.out, B5.out, X5.out⟩
      case measure => rw [R5.out.len, hln.out]; exact ML.out
end Go.Proofs.YtbjmbndeaobbeaaDoor
