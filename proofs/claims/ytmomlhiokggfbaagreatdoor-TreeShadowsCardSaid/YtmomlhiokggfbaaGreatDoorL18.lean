/-
 TrDl, TrKv, TrNw, TrDe, TrLw, TrEk, TrSc, RgK, RgM, TrPg, HeldIn.
-/
import Derived.Test.YtmomlhiokggfbaaGreatDoorL17
import Derived.Test.YtmomlhiokggfbaaGreatDoorL04
import Derived.RangeFuncNested
import Derived.RangeFuncLeaves
import Derived.LoopIn
import Derived.TacticsIn
import Derived.Test.YtmomlhiokggfbaaGreatDoorL03
import Derived.OrdersIn
import Derived.ControlIn
namespace Go.Proofs.YtmomlhiokggfbaaGreatDoor
open Go.RowKit
set_option maxRecDepth 20000
set_option maxHeartbeats 12800000
set_option linter.unusedVariables false
set_option linter.unusedSimpArgs false
theorem vshrink_is (w : World) (d s g : Nat) (dk : DkS) (st : ShS) (r : Nat) (F : Nat → Prop) (h : TS w d s g dk st r F) (G : Good dk st) (x : StepV) (f : Frame) (fs : List Frame) (hX : StepA w x f.N F) (hxp : x.p = f.page) (hxi : x.i = (f.KA.length : Int)) (hh : Nat) (p : Int) (N : Nod) (E : List Ent) (ha : AtI dk st (f :: fs) hh p N E) (hb : NB N 240) (ki : Int) (kf : Bool) (ak av ac : Option Addr) (ck cv cc : Nat) (hN : RowsA w N ak av ac ck cv cc F) (dp : Int) (hroom : Room dk st 2) (hdp : dp ≤ 10) (hr : r < 640) :
  Calls Tryz.prog 50 #[.pointer (some ⟨g, 0, none⟩), x.val, .agg #[.int .i64 p, .int .i64 ki, .bool kf, .bool N.leaf, .slice ak N.K.length ck, .slice av N.V.length cv, .slice ac N.C.length cc], .int .i64 dp] w (ShrOut w d s g dk st F x x.p fs (hh + 1) E 2 (fun r' => r' ≤ r + 1)) := by
 by_cases hz : 80 ≤ sizeN N
 ·exact vshrink_lay w d s g dk st r F h G x f fs hX hxp hxi hh p N E ha hb hz ki kf ak av ac ck cv cc hN dp hroom hdp hr
 ·by_cases hk : f.KA = []
  ·exact vshrink_right w d s g dk st r F h G x f fs hX hxp hxi hh p N E ha hb (by omega) hk ki kf ak av ac ck cv cc hN dp hroom hdp hr
  ·exact vshrink_left w d s g dk st r F h G x f fs hX hxp hxi hh p N E ha hb (by omega) hk ki kf ak av ac ck cv cc hN dp hroom hdp hr
theorem StepsA.mixed {w w' : World} {Z G : Nat → Prop} (hf : Frm G w w') : ∀ (xs : List StepV) (fs : List Frame) (hi : Nat), (∀ k, G k → Z k ∨ hi ≤ k) → (∀ f ∈ fs, f.N.V = []) → StepsA w Z xs fs hi → StepsA w' Z xs fs hi := by
 intro xs
 induction xs with
 | nil => intro fs hi _ _ h; cases fs with | nil => trivial | cons f fs => exact h.elim
 | cons x xs ih =>
  intro fs hi hG hV h
  cases fs with
  | nil => exact h.elim
  | cons f fs =>
   obtain ⟨lo, h1, h2, h3, h4, h5, h6, h7⟩ := h;exact ⟨lo, h1.frm2 hf (fun y hy hg => (hG _ hg).elim (h1.zk y hy) (fun h8 => by have := (h4 y hy).2; omega)) (fun y hy hg => (hG _ hg).elim (h1.zc y hy) (fun h8 => by have := (h5 y hy).2; omega)) (hV f (by simp)), h2, h3, h4, h5, h6, ih fs lo (fun k hk => (hG k hk).imp id (fun h8 => Nat.le_trans h6 h8)) (fun f' hf' => hV f' (by simp [hf'])) h7⟩
def stO (p i : Int) (fd : Bool) (N : Nod) (ak av ac : Option Addr) (ck cv cc : Nat) : Obj := .cells #[.int .i64 p, .int .i64 i, .bool fd, .bool N.leaf, .slice ak N.K.length ck, .slice av N.V.length cv, .slice ac N.C.length cc] 99
structure DelJ (w : World) (d s g : Nat) (dk : DkS) (st : ShS) (F : Nat → Prop) (E : List Ent) (bw bs m : Nat) (wr : World) (fs : List Frame) (xs : List StepV) (hh : Nat) (dk' : DkS) (st' : ShS) (r' : Nat) (F' FW : Nat → Prop) (p i : Int) (fd : Bool) (N : Nod) (ak av ac : Option Addr) (ck cv cc : Nat) (hi : Nat) : Prop where
 ts : TS wr d s g dk' st' r' F'
 fr : Frm F w wr
 fn : ∀ k, F' k → F k ∨ w.heap.size ≤ k
 way : Way wr bw xs.reverse FW
 ap : ∀ k, FW k → ¬ F' k
 wl : ∀ k, FW k → w.heap.size ≤ k
 box : wr.heap[bs]? = some (stO p i fd N ak av ac ck cv cc)
 bsF : ¬ F' bs
 bsW : ¬ FW bs
 bsl : w.heap.size ≤ bs
 hbs : hi ≤ bs
 rows : RowsA wr N ak av ac ck cv cc (fun k => F' k ∨ FW k ∨ k = bs)
 sts : StepsA wr (fun k => F' k ∨ FW k) xs fs hi
 rl : ∀ x ∈ xs, (∀ y, x.ak = some y → w.heap.size ≤ y.block) ∧ ∀ y, x.ac = some y → w.heap.size ≤ y.block
 at_ : AtI dk' st' fs hh p N E
 nb : NB N 240
 tt : To dk st dk' st'
 rm : ∀ k, Room dk st (k + m) → Room dk' st' (k + 2 * fs.length + 1)
 rr : r' + fs.length ≤ 639
section
variable {w wr w2 w3 : World} {d s g : Nat} {dk dk' : DkS} {st st' : ShS} {F F' FW : Nat → Prop} {E : List Ent} {bw bs m hh r' hi : Nat} {f : Frame} {fs : List Frame} {x : StepV} {xs : List StepV} {p i : Int} {fd : Bool} {N : Nod} {ak av ac : Option Addr} {ck cv cc : Nat}
theorem delJ_start {r : Nat} {w4 w5 w6 : World} {v : Value} {M : Nod} (hP : PopS w d s g dk st r F w4 bw bs v fs xs x M hi) (b5 : Below w4.heap.size w4 w5) (hN : NodR w5 N ak av ac ck cv cc) (q1 : ∀ y, ak = some y → w4.heap.size ≤ y.block) (q2 : ∀ y, av = some y → w4.heap.size ≤ y.block) (q3 : ∀ y, ac = some y → w4.heap.size ≤ y.block) (fe : Frm (fun k => k = bs) w5 w6) (hbox : w6.heap[bs]? = some (stO p i fd N ak av ac ck cv cc))
  (G : Good dk st) (hat : AtI dk st fs hh p N E) (hnb : NB N 240) (hm : 2 * fs.length + 1 ≤ m) (hr : r + fs.length ≤ 639) : DelJ w d s g dk st F E bw bs m w6 fs xs hh dk st r F (WF bw v) p i fd N ak av ac ck cv cc hi := by
 have b0 := hP.bs0;have b1 := hP.bs1;have f45 : Frm (fun k => k = bs) w4 w6 := (Frm.of_below b5 : Frm (fun k => k = bs) w4 w5).trans fe (fun k hk => .inl hk)
 have nV : ∀ f ∈ fs, f.N.V = [] := by
  obtain ⟨_, _, _, _, _, hc, _⟩ := hat;exact Ctx.noV fs hc
 have nF : ∀ k, F k → k ≠ bs := fun k hk e => by have := hP.fl k hk; omega
 have nW : ∀ k, WF bw v k → k ≠ bs := fun k hk e => by have := (hP.wl k hk).2; omega
 refine ⟨hP.ts.frm f45 (fun k hk e => nF k hk e), hP.fr.trans f45 (fun k hk => .inr (by subst hk; exact b0)), fun k hk => .inl hk, hP.way.frm f45 (fun k hk e => nW k hk e), fun k hk hf => ?_, fun k hk => (hP.wl k hk).1, hbox, fun hk => nF _ hk rfl, fun hk => nW _ hk rfl, b0, hP.hi, ?_, ?_, hP.rl, hat, hnb, To.refl G, fun k hk => hk.le (by omega), hr⟩
 ·have := (hP.wl k hk).1; have := hP.fl k hf; omega
 ·refine (RowsA.new (lo := w4.heap.size) hN q1 q2 q3 (fun k hk => ?_)).frm fe (fun k hk => .inr (.inr hk))
  rcases hk with hk | hk | hk
  ·have := hP.fl k hk; omega
  ·have := (hP.wl k hk).2; omega
  ·omega
 ·exact StepsA.mixed f45 xs fs hi (fun k hk => .inr (by subst hk; exact hP.hi)) nV hP.st
theorem del_ready (hJ : DelJ w d s g dk st F E bw bs m wr (f :: fs) (x :: xs) hh dk' st' r' F' FW p i fd N ak av ac ck cv cc hi) (hf2 : Frm (fun k => k = bw) wr w2) (hbw : FW bw) (b3 : Below w2.heap.size w2 w3) :
  TS w3 d s g dk' st' r' F' ∧ StepA w3 x f.N F' ∧ x.p = f.page ∧ x.i = (f.KA.length : Int) ∧ RowsA w3 N ak av ac ck cv cc F' ∧ w3.heap[bs]? = some (stO p i fd N ak av ac ck cv cc) := by
 obtain ⟨lo, sA, sp, si, sk, sc, slo, srest⟩ := hJ.sts;refine ⟨(hJ.ts.frm hf2 (fun k hk e => hJ.ap _ (e ▸ hbw) hk)).below b3, ?_, sp, si, ?_, ?_⟩
 ·exact ((sA.frm hf2 (fun k hk => .inr (hk ▸ hbw))).grow (Z' := F') (fun k hk => .inl (.inl hk))).frm (G := fun _ => False) (Frm.of_below b3) (fun _ hx => hx.elim)
 ·exact ((hJ.rows.frm hf2 (fun k hk => .inr (.inl (hk ▸ hbw)))).mono (fun k hk => .inl hk)).below b3
 ·refine kept ?_ b3
  exact (hf2.block bs (zl hJ.box) (fun e => hJ.bsW (e ▸ hbw))).trans hJ.box
theorem del_next {w5 we : World} {dk2 : DkS} {st2 : ShS} {r2 : Nat} {F2 : Nat → Prop} {N2 : Nod} {bk bv bc : Option Addr} {jk jv jc : Nat} {i2 : Int} {fd2 : Bool} (hJ : DelJ w d s g dk st F E bw bs m wr (f :: fs) (x :: xs) hh dk' st' r' F' FW p i fd N ak av ac ck cv cc hi) (hw2 : Way w2 bw xs.reverse FW) (hf2 : Frm (fun k => k = bw) wr w2) (hbw : FW bw) (b3 : Below w2.heap.size w2 w3)
  (hs : ShrS w3 d s g dk' st' F' x x.p fs (hh + 1) E 2 w5 N2 bk bv bc jk jv jc dk2 st2 r2 F2) (hr2 : r2 ≤ r' + 1) (fe : Frm (fun k => k = bs) w5 we) (hbox : we.heap[bs]? = some (stO x.p i2 fd2 N2 bk bv bc jk jv jc)) :
  ∃ lo, DelJ w d s g dk st F E bw bs m we fs xs (hh + 1) dk2 st2 r2 F2 FW x.p i2 fd2 N2 bk bv bc jk jv jc lo := by
 obtain ⟨lo, sA, sp, si, sk, sc, slo, srest⟩ := hJ.sts;have bsr : bs < wr.heap.size := (zl hJ.box);have s2 := hf2.size;have s3 := b3.size
 have xr : ∀ k, XB x k → (lo ≤ k ∧ k < hi) ∧ ¬ (F' k ∨ FW k) ∧ w.heap.size ≤ k := fun k hk => by
  have hr := hJ.rl x (List.mem_cons_self ..)
  rcases hk with ⟨y, hy, rfl⟩ | ⟨y, hy, rfl⟩
  ·exact ⟨sk y hy, sA.zk y hy, hr.1 y hy⟩
  ·exact ⟨sc y hy, sA.zc y hy, hr.2 y hy⟩
 have Wlt : ∀ k, FW k → k < w2.heap.size := hw2.lt;have hbs := hJ.hbs;have f03 : Frm F w w3 := (hJ.fr.trans hf2 (fun k hk => .inr (hk ▸ hJ.wl bw hbw))).trans (G := fun _ => False) (Frm.of_below b3) (fun _ hx => hx.elim);have s03 := f03.size
 have nb2 : ¬ F2 bs := fun hx => by
  rcases hs.fn _ hx with h1 | h1
  ·exact hJ.bsF h1
  ·omega
 have nV : ∀ f' ∈ fs, f'.N.V = [] := by
  obtain ⟨_, _, _, _, _, hc, _⟩ := hJ.at_;exact fun f' hf' => Ctx.noV (f :: fs) hc f' (List.mem_cons_of_mem _ hf')
 have off : ∀ y : Addr, (XB x y.block ∨ w3.heap.size ≤ y.block) → ¬ FW y.block ∧ y.block ≠ bs := fun y hy => by
  rcases hy with h1 | h1
  ·exact ⟨fun h2 => (xr _ h1).2.1 (.inr h2), by have := (xr _ h1).1; omega⟩
  ·exact ⟨fun h2 => by have := Wlt _ h2; omega, by omega⟩
 refine ⟨lo, hs.ts.frm fe (fun k hk e => nb2 (e ▸ hk)), ?_, fun k hk => ?_, ?_, fun k hk hf => ?_, hJ.wl, hbox, nb2, hJ.bsW, hJ.bsl, by omega, ?_, ?_, fun y hy => hJ.rl y (List.mem_cons_of_mem _ hy), hs.at_, hs.nb, hJ.tt.trans hs.tt, fun k hk => hs.rm _ ((hJ.rm k hk).le (by rw [List.length_cons]; omega)), by have := hJ.rr; rw [List.length_cons] at this; omega⟩
 ·refine (f03.trans hs.fr (fun k hk => ?_)).trans fe (fun k hk => .inr (by subst hk; exact hJ.bsl))
  rcases hk with hk | hk
  ·exact hJ.fn k hk
  ·exact .inr (xr k hk).2.2
 ·rcases hs.fn k hk with h1 | h1
  ·exact hJ.fn k h1
  ·exact .inr (by omega)
 ·refine ((hw2.below b3).frm hs.fr (fun k hk hg => ?_)).frm fe (fun k hk e => hJ.bsW (e ▸ hk))
  rcases hg with h1 | h1
  ·exact hJ.ap k hk h1
  ·exact (xr k h1).2.1 (.inr hk)
 ·rcases hs.fn k hf with h1 | h1
  ·exact hJ.ap k hk h1
  ·have := Wlt k hk; omega
 ·have h1 := hs.rows.frm2 fe hs.nv (fun y hy => (off y (hs.ka y hy)).2) (fun y hy => (off y (hs.kc y hy)).2)
  refine ⟨h1.r, fun y hy hL hz => ?_, fun y hy hL => absurd hs.nv hL, fun y hy hL hz => ?_⟩
  ·rcases hz with hz | hz | hz
   ·exact h1.zk y hy hL hz
   ·exact (off y (hs.ka y hy)).1 hz
   ·exact (off y (hs.ka y hy)).2 hz
  ·rcases hz with hz | hz | hz
   ·exact h1.zc y hy hL hz
   ·exact (off y (hs.kc y hy)).1 hz
   ·exact (off y (hs.kc y hy)).2 hz
 ·have e1 := StepsA.frm hf2 (fun k hk => .inr (hk ▸ hbw)) xs fs lo srest
  have e2 := StepsA.mixed (G := fun _ => False) (Frm.of_below b3) xs fs lo (fun _ hx => hx.elim) nV e1
  have e3 := StepsA.grow (Z' := fun k => F' k ∨ F2 k ∨ FW k) (fun k hk => by
   rcases hk with hk | hk | hk
   ·exact .inl (.inl hk)
   ·exact (hs.fn k hk).imp .inl id
   ·exact .inl (.inr hk)) xs fs lo e2
  have e4 := StepsA.mixed hs.fr xs fs lo (fun k hk => by
   rcases hk with hk | hk
   ·exact .inl (.inl hk)
   ·exact .inr (xr k hk).1.1) nV e3
  have e5 := StepsA.mixed fe xs fs lo (fun k hk => .inr (by subst hk; omega)) nV e4;exact StepsA.mono (fun k hk => .inr hk) xs fs lo e5
end
def lawK (n : Int) : Int := (if n < 0 then -(n + 1) else n) % 60 * 1000000007
theorem lawK_ok (n : Int) : 0 ≤ lawK n ∧ lawK n ≤ 18446744073709551615 := by
 unfold lawK
 split <;> omega
theorem key_is (w : World) (n : Int) (h1 : -9223372036854775808 ≤ n) (h2 : n ≤ 9223372036854775807) :
  Calls Tryz.prog 15 #[.int .i64 n] w fun e w' => e = .returned (.int .u64 (lawK n)) ∧ Below w.heap.size w w' := by
 by_cases hn : n < 0
 ·obtain ⟨m, hm⟩ : ∃ m : Nat, -(n + 1) = (m : Int) := ⟨(-(n + 1)).toNat, by omega⟩
  have e1 : IntKind.i64.wrap (n + 1) = n + 1 := IntWalk.i64_in _ (by omega);have e2 : IntKind.i64.wrap (-(n + 1)) = (m : Int) := by rw [hm]; exact IntWalk.i64_in _ (by omega)
  have FIN : Hid (lawK n = ((m : Int) % 60) * 1000000007) := Hd (by unfold lawK; rw [if_pos hn, hm]);rw [FIN.out];clear hm FIN;go_enter Tryz.func15, Tryz.ntmps15;go_wp2_with fail;go_ret;exact ⟨rfl, Br⟩
 ·obtain ⟨m, rfl⟩ : ∃ m : Nat, n = (m : Int) := ⟨n.toNat, by omega⟩
  have FIN : Hid (lawK (m : Int) = ((m : Int) % 60) * 1000000007) := Hd (by unfold lawK; rw [if_neg hn]);rw [FIN.out];clear FIN;go_enter Tryz.func15, Tryz.ntmps15;go_wp2_with fail;go_ret;exact ⟨rfl, Br⟩
theorem zeros_none (k : Nat) (i : Int) : hasB (Str (List.replicate k 0)) i = false := by
 unfold hasB bitL;rw [Str_list]
 split
 ·rw [List.getElem_replicate]
  simp
 ·simp
theorem fmt_used (x : Int) : hasB fmtH.used x = false := zeros_none 80 x
theorem fmt_good (dk : DkS) (hu : dk.up = true) (hf : dk.fuse = -1) (h8 : 8 ≤ dk.S.length) (h6 : dk.S.length ≤ 640) :
  (wrHead dk fmtH).2 = 0 ∧ Good (wrHead dk fmtH).1 (ShS.new fmtH) ∧ TreeI (wrHead dk fmtH).1 (ShS.new fmtH) 0 [] ∧ (wrHead dk fmtH).1.S.length = dk.S.length := by
 obtain ⟨e1, e2⟩ := wrHead_ok dk fmtH hu (by omega) h8 (by decide +kernel) (by decide)
 have hl : (wrHead dk fmtH).1.S.length = dk.S.length := by
  rw [e2]; unfold DkS.wrote DkS.loosened; dsimp only; split <;> simp
 refine ⟨e1, ⟨?_, ?_, by rw [hl]; exact h6, by rw [hl]; exact h8, rfl, fun x hx => (by cases hx), List.nodup_nil, fun x hx => ?_, fun x hx => (by cases hx)⟩, .inl ⟨rfl, rfl, List.nodup_nil, fun x => ⟨fun hx => (by cases hx), fun hx => ?_⟩⟩, hl⟩
 ·rw [e2]; unfold DkS.wrote DkS.loosened; dsimp only; split <;> exact hu
 ·rw [e2]; unfold DkS.wrote DkS.loosened; dsimp only; rw [hf]; split <;> rfl
 ·rw [show (ShS.new fmtH).h.used = fmtH.used from rfl, fmt_used] at hx; cases hx
 ·rcases hx with hx | hx
  ·cases hx
  ·have := hx.1
   rw [show (ShS.new fmtH).h.used = fmtH.used from rfl, fmt_used] at this; cases this
theorem without_nb (M : Nod) (i : Nat) (h : NB M 240) (hl : M.leaf = true) : NB (withoutN M i) 240 := by
 have hb : ∀ (L : List ByteArray) (i : Nat), bytesV (L.take i ++ L.drop (i + 1)) ≤ bytesV L := by
  intro L
  induction L with
  | nil => intro i; simp [bytesV]
  | cons a L ih =>
   intro i
   cases i with
   | zero => simp [bytesV]
   | succ i =>
    have := ih i;simp only [List.take_succ_cons, List.drop_succ_cons, List.cons_append, bytesV];omega
 refine ⟨fun v hv => ?_, fun c hc => (by cases hc), ?_⟩
 ·have hv' : v ∈ M.V.take i ++ M.V.drop (i + 1) := hv
  rcases List.mem_append.1 hv' with h1 | h1
  ·exact h.1 v (List.mem_of_mem_take h1)
  ·exact h.1 v (List.mem_of_mem_drop h1)
 ·have h2 := h.2.2
  unfold sizeN at h2 ⊢;rw [hl] at h2;simp only [withoutN, if_true] at h2 ⊢;have h3 := len_cut M.K i (i + 1) (by omega);have h4 := hb M.V i;omega
def DelR (w : World) (d s : Nat) (dk : DkS) (st : ShS) (F : Nat → Prop) (key : Int) (E : List Ent) (e : Ending) (w' : World) : Prop :=
 ∃ q dk' st', e = .returned (.tuple #[.int .i64 q, .bool (getB key E), .int .i64 0]) ∧ SDPost w d s dk' st' F w' ∧ TreeI dk' st' q (if getB key E then delE key E else E) ∧ To dk st dk' st'
theorem tdel_some (w : World) (d s : Nat) (dk : DkS) (st : ShS) (F : Nat → Prop) (h : SD w d s dk st F) (G : Good dk st) (root : Int) (h0 : root ≠ 0) (H : Nat) (F0 : List Mk) (P0 : List Int) (ht : IsT (Rn dk) H root F0 P0) (hs : SortM F0) (hl : LiveL st P0) (h9 : H ≤ 9) (hroom : Room dk st (2 * H + 3)) (key : Int) (hk : 0 ≤ key ∧ key ≤ 18446744073709551615) :
  Calls Tryz.prog 18 #[.pointer (some ⟨s, 0, none⟩), .int .i64 root, .int .u64 key] w (DelR w d s dk st F key (entsM F0)) := by
 have h0' : (root == 0) = false := by rw [beq_eq_false_iff_ne]; exact h0
 obtain ⟨FV, hFV⟩ : ∃ FV, FV = (fun k => F k ∨ k = w.heap.size) := ⟨_, rfl⟩
 have hvis : TS (w.alloc (visO s 0)) d s w.heap.size dk st 0 FV := by rw [hFV]; exact h.visit
 have HL := Hd hvis.lt;have DN := Hd (down_is (w.alloc (visO s 0)) d s w.heap.size dk st 0 FV hvis G root H F0 P0 ht hs h9 (by omega) key hk);have HG := Hd G;have HSS := Hd hs;have HLV := Hd hl;have HRM := Hd hroom;have HH9 := Hd h9;have HTI : Hid (TreeI dk st root (entsM F0)) := Hd (.inr ⟨H, F0, P0, ht, hs, rfl, hl⟩);have HENDS : Hid (∀ dk' st' r' w', TSPost (w.alloc (visO s 0)) d s w.heap.size dk' st' r' FV w' → SDPost w d s dk' st' F w') := Hd (fun dk' st' r' w' hp => by rw [hFV] at hp; exact TSPost.ends (dk := dk) (st := st) hp);obtain ⟨w0, hw0⟩ : ∃ w0, w.alloc (visO s 0) = w0 := ⟨_, rfl⟩
 obtain ⟨g, hg⟩ : ∃ g, w.heap.size = g := ⟨_, rfl⟩
 have hgF : FV g := by rw [hFV, ← hg]; exact .inr rfl
 rw [hw0] at HL DN HENDS;rw [hg] at DN HENDS;have HGF := Hd hgF;clear h G ht hs hl hroom h9 h0 hk hFV hgF hvis;have hw9 : w.alloc (.cells #[.pointer (some ⟨s, 0, none⟩), .int .i64 0, .int .i64 0] 88) = w0 := hw0;have HW9 := Hd hw9;have HG9 := Hd hg;clear hw0 hw9 hg;go_enter Tryz.func18, Tryz.ntmps18;go_upto_region 4 with fail
 rw [HW9.out, HG9.out];clear HW9 HG9;go_wp2_with fail;refine DN.out.mono ?_;rintro e w1 ⟨v, fs, xs, x, M, i, fd, FL, FR, Fh, PC, hi, rfl, hD⟩;obtain ⟨va, vc, rfl, _, _⟩ := own_shape7 hD.own;obtain ⟨vn, hvn⟩ : ∃ vn, (xs.reverse ++ [x]).length = vn := ⟨_, rfl⟩
 have W2 : Way (w1.alloc (.cells #[.slice va (xs.reverse ++ [x]).length vc] 92)) w1.heap.size (xs.reverse ++ [x]) (WF w1.heap.size (.slice va (xs.reverse ++ [x]).length vc)) :=
  ⟨_, ⟨han w1 _, own_frmZ (F := fun _ => False) hD.own ((Frm.refl _ w1).alloc _) (fun _ _ hx => hx), fun e => by have := (hD.own.lt _ e).2; omega⟩, fun _ => Iff.rfl⟩
 have PO := Hd (way_pop _ w1.heap.size xs.reverse x _ W2);have gl := get_leaf hD.nt (by rw [hD.eF]; exact HSS.out) hD.bL hD.bR hD.fn;rw [hD.eF] at gl;have GL := Hd gl;have HD := Hd hD;have XF := Hd hD.xf;have XI := Hd hD.xi;rw [hvn] at PO HD ⊢;clear hD W2 hvn gl;go_wp2_with fail;refine PO.out.mono ?_;rintro e w3 ⟨rfl, hw3, hf3⟩;have hP := popS_of HL.out HGF.out HD.out hw3 hf3;unfold StepV.val;go_upto_region 8 with fail
 obtain ⟨w4, hw4⟩ : ∃ w4, w3.alloc (.cells #[.int .i64 x.p, .int .i64 x.i, .bool x.fd, .bool x.lf, .slice x.ak x.lk x.ck, .slice x.av x.lv x.cv, .slice x.ac x.lc x.cc] 99) = w4 := ⟨_, rfl⟩
 obtain ⟨bs, hbs⟩ : ∃ bs, w3.heap.size = bs := ⟨_, rfl⟩
 obtain ⟨bw, hbw⟩ : ∃ bw, w1.heap.size = bw := ⟨_, rfl⟩
 rw [hw4, hbs, hbw] at hP;try rw [hw4]
 try rw [hbs]
 try rw [hbw]
 have X4 := hP.box;have HP := Hd hP;rw [XF.out, XI.out] at X4;clear hw4 hbs hbw hw3 hf3 PO DN hP XF XI
 rcases GL.out with ⟨rfl, val, hv, hget⟩ | ⟨rfl, hget⟩
 ·have e2 : getB key (entsM F0) = true := by unfold getB; rw [hget]; rfl
  have HE2 := Hd e2;have hD := HD.out;have hsort : SortM (FL ++ Fh ++ FR) := by rw [hD.eF]; exact HSS.out
  have hlive : LiveL st (x.p :: (PC ++ [])) := by rw [List.append_nil]; exact HLV.out.perm hD.eP.symm
  obtain ⟨hAt, hik⟩ := del_at key i hD.ctx hD.nt hsort hD.bL hD.bR hlive hD.fn;rw [hD.eF] at hAt;have hMr := Rn_right hD.xp;have hMN := NB.of_right hMr.1;have hwh := whole_of hD.nt;have hlf : M.leaf = true := by rw [leaf_of hD.nt]; rfl
  have nodx : nodV M x.ak x.av x.ac x.ck x.cv x.cc = .agg #[.bool x.lf, .slice x.ak x.lk x.ck, .slice x.av x.lv x.cv, .slice x.ac x.lc x.cc] := by
   unfold nodV; rw [HP.out.lf.lf, HP.out.lf.lk, HP.out.lf.lv, HP.out.lf.lc]
  have hNB : NB (withoutN M i) 240 := without_nb M i hMN hlf
  have WT : Hid (Calls Tryz.prog 48 #[.agg #[.bool x.lf, .slice x.ak x.lk x.ck, .slice x.av x.lv x.cv, .slice x.ac x.lc x.cc], .int .i64 (i : Int)] w4 fun e w' => NodBack w4.heap.size (withoutN M i) e w' ∧ Below w4.heap.size w4 w') := Hd (by
   rw [← nodx];exact without_is M x.ak x.av x.ac x.ck x.cv x.cc w4 HP.out.lf.a.r i hlf hwh (by omega))
  have HAT := Hd hAt;have HNB := Hd hNB;have HFL : Hid (fs.length = H) := Hd hD.ln;clear hD hsort hlive hAt hik hMr hMN hwh hlf nodx hNB hget hv e2;obtain ⟨N, hN⟩ : ∃ N, withoutN M i = N := ⟨_, rfl⟩
  rw [hN] at WT HAT HNB;have HX4 := Hd X4;obtain ⟨d0, d1, d2, d3, d4, d5, d6⟩ := cells7 X4;clear X4 hN;go_wp2_with fail;refine WT.out.mono ?_;rintro e w5 ⟨⟨bk, bv, bc, jk, jv, jc, rfl, hRN, r1, r2, r3⟩, b5⟩;have X5 := kept HX4.out b5;have k3 := ufb X5 3;have k4 := ufb X5 4;have k5 := ufb X5 5;have k6 := ufb X5 6;clear d0 d1 d2 d3 d4 d5 d6;obtain ⟨d0, d1, d2, d3, d4, d5, d6⟩ := cells7 X5;simp only [nodV];have HX5 := Hd X5;have HRN := Hd hRN;have HR3 := Hd (And.intro r1 (And.intro r2 r3));have HB5 := Hd b5;clear X5 hRN r1 r2 r3 b5;go_upto_region 11 with fail
  obtain ⟨w6, hw6⟩ : ∃ w6, (((w5.setCell ⟨bs, 3, none⟩ (.bool N.leaf)).setCell ⟨bs, 4, none⟩ (.slice bk N.K.length jk)).setCell ⟨bs, 5, none⟩ (.slice bv N.V.length jv)).setCell ⟨bs, 6, none⟩ (.slice bc N.C.length jc) = w6 := ⟨_, rfl⟩
  have F56 : Frm (fun k => k = bs) w5 w6 := hw6 ▸ putN_frm (Frm.refl _ w5) bs (.bool N.leaf) (.slice bk N.K.length jk) (.slice bv N.V.length jv) (.slice bc N.C.length jc) (.inl rfl);have X6 : w6.heap[bs]? = some (stO x.p (i : Int) true N bk bv bc jk jv jc) := hw6 ▸ putN_block HX5.out (.bool N.leaf) (.slice bk N.K.length jk) (.slice bv N.V.length jv) (.slice bc N.C.length jc);have hJ0 := delJ_start (m := 2 * H + 1) HP.out HB5.out HRN.out HR3.out.1 HR3.out.2.1 HR3.out.2.2 F56 X6 HG.out HAT.out HNB.out (by rw [HFL.out]; exact Nat.le_refl _) (by have := HFL.out; have := HH9.out; omega)
  have HJ0 := Hd hJ0;rw [hw6];clear hw6 F56 X6 hJ0 k3 k4 k5 k6 d0 d1 d2 d3 d4 d5 d6 HRN HR3 HB5 HX5 HX4 HP HD WT;go_wp2_with fail
  go_loopw [8] (fun p wr => ∃ fs' ys hh dk' st' r' F' FW p' i fd N ak av ac ck cv cc hi', p = .int .i64 0 ∧ fs'.length ≤ H ∧ DelJ w0 d s g dk st FV (delE key (entsM F0)) bw bs (2 * H + 1) wr fs' ys hh dk' st' r' F' FW p' i fd N ak av ac ck cv cc hi') (fun _ wr => wayN bw wr)
  case atStart => exact ⟨fs, xs, 0, dk, st, _, FV, _, x.p, _, true, N, bk, bv, bc, jk, jv, jc, hi, rfl, Nat.le_of_eq HFL.out, HJ0.out⟩
  case round =>
   obtain ⟨fs', ys, hh, dk', st', r', F', FW, p, i, fd, N, ak, av, ac, ck, cv, cc, hi', rfl, hfl, hJ⟩ := hrel;have HFH := Hd hfl;clear hfl;have hlen := StepsA.len _ _ _ hJ.sts;have HJ := Hd hJ;have XB0 := hJ.box;unfold stO at XB0;have WD := Hd (way_depth wr bw ys.reverse FW hJ.way);clear HJ0
   cases ys with
   | nil =>
    have hfs : fs' = [] := List.length_eq_zero_iff.1 (by rw [← hlen]; rfl);subst hfs;rw [show ([] : List StepV).reverse.length = 0 from rfl] at WD
    have TP : Hid (Calls Tryz.prog 51 #[.pointer (some ⟨g, 0, none⟩), .agg #[.int .i64 p, .int .i64 i, .bool fd, .bool N.leaf, .slice ak N.K.length ck, .slice av N.V.length cv, .slice ac N.C.length cc]] wr fun e w' => ∃ q, e = .returned (.tuple #[.int .i64 q, .int .i64 0]) ∧ DelR w d s dk st F key (entsM F0) (.returned (.tuple #[.int .i64 q, .bool true, .int .i64 0])) w') := Hd (by
     refine (vtop_is wr d s g dk' st' r' F' hJ.ts hJ.tt.g p i fd hh N _ hJ.at_ hJ.nb ak av ac ck cv cc (hJ.rows.mono (fun k hk => .inl hk)) ((hJ.rm 0 (HRM.out.le (by omega))).le (by simp))).mono ?_;rintro e w' ⟨q, dk2, st2, r2, rfl, ⟨F2, t1, t2, t3⟩, hT, hto, _⟩;refine ⟨q, rfl, q, dk2, st2, by rw [HE2.out], HENDS.out dk2 st2 r2 w' ⟨F2, t1, hJ.fr.trans t2 hJ.fn, fun k hk => ?_⟩, by rw [HE2.out]; exact hT, hJ.tt.trans hto⟩
     rcases t3 k hk with h1 | h1
     ·exact hJ.fn k h1
     ·exact .inr (Nat.le_trans hJ.fr.size h1))
    obtain ⟨d0, d1, d2, d3, d4, d5, d6⟩ := cells7 XB0;clear hJ XB0 hlen;go_wp2_with fail;refine WD.out.mono ?_;rintro e w9 ⟨rfl, rfl⟩;go_wp2_with fail;refine TP.out.mono ?_;rintro e w9 ⟨q, rfl, hq⟩;have FIN := Hd hq;clear hq;go_wp2_with fail;go_ret3;exact FIN.out
   | cons y ys' =>
    cases fs' with
    | nil => exact absurd hlen (by simp)
    | cons f fs' =>
     have PO := Hd (way_pop wr bw ys'.reverse y FW (by have := hJ.way; rwa [List.reverse_cons] at this));have hbw : FW bw := by obtain ⟨v, hi, he⟩ := hJ.way; exact (he bw).2 (.inl rfl)
     have HBW := Hd hbw;obtain ⟨n, hn⟩ : ∃ n, ys'.length = n := ⟨_, rfl⟩
     have hrl : (y :: ys').reverse.length = n + 1 := by rw [List.length_reverse, List.length_cons, hn]
     rw [hrl] at WD;have hn0 : (0 : Int) < (n : Int) + 1 := by omega
     have HN := Hd hn;have hfn : fs'.length = n := by simp only [List.length_cons] at hlen; omega
     have HFN := Hd hfn;have hRR := hJ.rr;clear hJ hlen hn hrl hbw hfn XB0;go_wp2_with fail;refine WD.out.mono ?_;rintro e w8 ⟨rfl, rfl⟩;go_wp2_with fail;refine PO.out.mono ?_;rintro e w2 ⟨rfl, hw2, hf2⟩;unfold StepV.val;go_upto_region 13 with fail
     obtain ⟨w3, hw3⟩ : ∃ w3, w2.alloc (.cells #[.int .i64 y.p, .int .i64 y.i, .bool y.fd, .bool y.lf, .slice y.ak y.lk y.ck, .slice y.av y.lv y.cv, .slice y.ac y.lc y.cc] 99) = w3 := ⟨_, rfl⟩
     obtain ⟨bu, hbu⟩ : ∃ bu, w2.heap.size = bu := ⟨_, rfl⟩
     have B3 : Below w2.heap.size w2 w3 := by rw [← hw3]; exact (Below.refl _ w2).alloc (Nat.le_refl _) _
     have BUX : Hid (w3.heap[bu]? = some (.cells #[.int .i64 y.p, .int .i64 y.i, .bool y.fd, .bool y.lf, .slice y.ak y.lk y.ck, .slice y.av y.lv y.cv, .slice y.ac y.lc y.cc] 99)) := Hd (by rw [← hw3, ← hbu]; exact han w2 _);have hRD := del_ready HJ.out hf2 HBW.out B3;obtain ⟨t3, sx3, sp3, si3, ra3, bx3⟩ := hRD;have BUL : Hid (bu < w3.heap.size) := Hd (zl BUX.out);have F'lt : ∀ k, F' k → k < wr.heap.size := HJ.out.ts.lt;have bsr : bs < wr.heap.size := (zl HJ.out.box);have s2 := hf2.size
     have xbl : ∀ k, XB y k → k < bs := fun k hk => by
      obtain ⟨lo, _, _, _, sk, sc, _, _⟩ := HJ.out.sts;have := HJ.out.hbs
      rcases hk with ⟨z, hz, rfl⟩ | ⟨z, hz, rfl⟩
      ·have := sk z hz; omega
      ·have := sc z hz; omega
     have BUN : Hid (¬ (F' bu ∨ XB y bu ∨ bu = bs)) := Hd (by
      rintro (h1 | h1 | h1)
      ·have := F'lt _ h1; omega
      ·have := xbl _ h1; omega
      ·omega)
     have BSN : Hid (¬ (F' bs ∨ XB y bs)) := Hd (by
      rintro (h1 | h1)
      ·exact HJ.out.bsF h1
      ·have := xbl _ h1; omega)
     have BSL : Hid (bs < w3.heap.size) := Hd (by have := B3.size; omega);have BSX := Hd bx3
     have WD3 : Hid (Calls Tryz.prog 49 #[.pointer (some ⟨bw, 0, none⟩)] w3.drew fun e w' => e = .returned (.int .i64 (n : Int)) ∧ w3.drew = w') := Hd (by
      have := way_depth w3.drew bw ys'.reverse FW ((hw2.below B3).below Br.drew);rw [List.length_reverse, HN.out] at this;exact this)
     have SK : Hid (Calls Tryz.prog 50 #[.pointer (some ⟨g, 0, none⟩), .agg #[.int .i64 y.p, .int .i64 y.i, .bool y.fd, .bool y.lf, .slice y.ak y.lk y.ck, .slice y.av y.lv y.cv, .slice y.ac y.lc y.cc], .agg #[.int .i64 p, .int .i64 i, .bool fd, .bool N.leaf, .slice ak N.K.length ck, .slice av N.V.length cv, .slice ac N.C.length cc], .int .i64 ((n : Int) + 2)] w3.drew (ShrOut w3 d s g dk' st' F' y y.p fs' (hh + 1) (delE key (entsM F0)) 2 (fun q => q ≤ r' + 1))) := Hd (by
      have bd : Below w3.heap.size w3 w3.drew := Br.drew;have hn10 : n ≤ 8 := by have h1 := HFH.out; have h2 := HFN.out; have := HH9.out; simp only [List.length_cons] at h1; omega
      refine (vshrink_is w3.drew d s g dk' st' r' F' (t3.below bd) HJ.out.tt.g y f fs' (sx3.frm (G := fun _ => False) (Frm.of_below bd) (fun _ hx => hx.elim)) sp3 si3 hh p N _ HJ.out.at_ HJ.out.nb i fd ak av ac ck cv cc (ra3.below bd) ((n : Int) + 2) ((HJ.out.rm 0 (HRM.out.le (by omega))).le (by simp; omega)) (by omega) (by have := HJ.out.rr; omega)).mono ?_;rintro e w5 ⟨i2, fd2, N2, bk, bv, bc, jk, jv, jc, dk2, st2, r2, F2, q1, q2, q3⟩
      exact ⟨i2, fd2, N2, bk, bv, bc, jk, jv, jc, dk2, st2, r2, F2, q1, q2, { q3 with fr := ((Frm.refl (fun k => F' k ∨ XB y k) w3).drew).trans q3.fr (fun _ hk => .inl hk) }⟩)
     unfold stO at bx3;have hwr2 : IntKind.i64.wrap ((n : Int) + 2) = (n : Int) + 2 := IntWalk.i64_in _ (by have := HFN.out; have := HJ.out.rr; simp only [List.length_cons] at this; omega);have HW2 := Hd hw2;have HF2 := Hd hf2;have HB3 := Hd B3;obtain ⟨b0, b1, b2, b3, b4, b5, b6⟩ := cells7 bx3;try rw [hw3]
     try rw [hbu]
     clear hw3 hbu B3 t3 sx3 sp3 si3 ra3 bx3 F'lt bsr s2 xbl hw2 hf2;refine wp_region_held_drew (S := fun wz => Frm (fun k => F' k ∨ XB y k ∨ k = bs) w3 wz) (by kernel_rfl) ((Frm.refl (fun k => F' k ∨ XB y k ∨ k = bs) w3).drew) (fun hS => ?_);refine Hv 0 41 ?v0x1 hS ?h0x1 ?_
     case h0x1 =>
      intro w9 s9;have cN0 := cl ((s9.block bu BUL.out BUN.out).trans BUX.out) 0 rfl;have cN1 := cl ((s9.block bu BUL.out BUN.out).trans BUX.out) 1 rfl;have cN2 := cl ((s9.block bu BUL.out BUN.out).trans BUX.out) 2 rfl;have cN3 := cl ((s9.block bu BUL.out BUN.out).trans BUX.out) 3 rfl;have cN4 := cl ((s9.block bu BUL.out BUN.out).trans BUX.out) 4 rfl;have cN5 := cl ((s9.block bu BUL.out BUN.out).trans BUX.out) 5 rfl;have cN6 := cl ((s9.block bu BUL.out BUN.out).trans BUX.out) 6 rfl;clear s9;go_simp;try (with_reducible rfl)
     simp only [SL];refine Hk 1 2 (fun K HK => ?_) (fun K HK => ?_)
     ·go_simp
      refine HK.out _ _ ?_ ?_
      ·exact hS
      clear HK K;try simp only [Act.put, SL]
      refine Hs 2 (fun K HK => ?_);go_simp;go_wp2_with fail;refine WD3.out.mono ?_;rintro e w8 ⟨rfl, rfl⟩;refine HK.out _ _ ?_ ?_
      ·exact hS
      clear HK K;try simp only [Act.put, SL]
      refine Hu 3 44 hS ?_;simp only [SL];refine Hs 4 (fun K HK => ?_);go_simp;go_wp2_with fail;refine SK.out.mono ?_;rintro e w5 ⟨i2, fd2, N2, bk, bv, bc, jk, jv, jc, dk2, st2, r2, F2, rfl, hr2, hs⟩;have HS := Hd hs;have HR2 := Hd hr2;refine HK.out _ _ ?_ ?_
      ·exact (Frm.refl _ w3).trans (hs.fr.mono (fun k hk => hk.imp id .inl)) (fun _ hk => .inl hk)
      clear HK K;try simp only [Act.put, SL]
      clear hS;have hS : Frm (fun k => F' k ∨ XB y k ∨ k = bs) w3 w5 := (Frm.refl _ w3).trans (hs.fr.mono (fun k hk => hk.imp id .inl)) (fun _ hk => .inl hk);have X5 : w5.heap[bs]? = some (stO p i fd N ak av ac ck cv cc) := (hs.fr.block bs BSL.out BSN.out).trans BSX.out;unfold stO at X5;have g0 := ufb X5 0;have g1 := ufb X5 1;have g2 := ufb X5 2;have g3 := ufb X5 3;have g4 := ufb X5 4;have g5 := ufb X5 5;have g6 := ufb X5 6;clear b0 b1 b2 b3 b4 b5 b6;obtain ⟨i0, i1, i2', i3, i4, i5, i6⟩ := cells7 X5;have HX5 := Hd X5;clear X5 hs hr2;refine Hu 5 40 hS ?_;simp only [SL]
      refine Hu 6 46 hS ?_;simp only [SL];refine Hu 7 47 hS ?_;simp only [SL];refine Hs 8 (fun K HK => ?_);go_simp;refine HK.out _ _ ?_ ?_
      ·exact put7_frm hS bs ⟨y.p, i2, fd2, N2.leaf, bk, N2.K.length, jk, bv, N2.V.length, jv, bc, N2.C.length, jc⟩ (.inl (.inr (.inr rfl)))
      clear HK K;try simp only [Act.put, SL]
      have hS9 := put7_frm hS bs ⟨y.p, i2, fd2, N2.leaf, bk, N2.K.length, jk, bv, N2.V.length, jv, bc, N2.C.length, jc⟩ (.inl (.inr (.inr rfl)));clear hS;unfold put7 at hS9;have hS := hS9;clear hS9 g0 g1 g2 g3 g4 g5 g6 i0 i1 i2' i3 i4 i5 i6;refine Hu 9 8 hS ?_;simp only [SL];refine wpAnyH_done (by kernel_rfl) ?_ _;have FE : Frm (fun k => k = bs) w5 (put7 w5 bs ⟨y.p, i2, fd2, N2.leaf, bk, N2.K.length, jk, bv, N2.V.length, jv, bc, N2.C.length, jc⟩) := put7_frm (Frm.refl _ w5) _ _ (.inl rfl)
      have XE := put7_block HX5.out ⟨y.p, i2, fd2, N2.leaf, bk, N2.K.length, jk, bv, N2.V.length, jv, bc, N2.C.length, jc⟩;obtain ⟨lo, hJn⟩ := del_next HJ.out HW2.out HF2.out HBW.out HB3.out HS.out HR2.out FE XE;have FIN := Hd hJn;have WN1 := Hd (wayN_of hJn.way);have WN2 := Hd (wayN_of HJ.out.way);clear hS FE XE hJn;unfold put7 at FIN WN1;go_wp2_with fail;go_roundw
      case rel => exact ⟨fs', ys', hh + 1, dk2, st2, r2, F2, FW, y.p, i2, fd2, N2, bk, bv, bc, jk, jv, jc, lo, rfl, Nat.le_of_succ_le HFH.out, FIN.out⟩
      case measure =>
       rw [WN1.out, WN2.out];simp only [List.length_reverse, List.length_cons];omega
     ·go_simp
      go_wp2_with fail;refine WD3.out.mono ?_;rintro e w8 ⟨rfl, rfl⟩;refine HK.out _ _ ?_ ?_
      ·exact hS
      clear HK K;try simp only [Act.put, SL]
      refine Hu 3 44 hS ?_;simp only [SL];refine Hs 1 (fun K HK => ?_);go_simp;refine HK.out _ _ ?_ ?_
      ·exact hS
      clear HK K;try simp only [Act.put, SL]
      refine Hs 4 (fun K HK => ?_);go_simp;go_wp2_with fail;refine SK.out.mono ?_;rintro e w5 ⟨i2, fd2, N2, bk, bv, bc, jk, jv, jc, dk2, st2, r2, F2, rfl, hr2, hs⟩;have HS := Hd hs;have HR2 := Hd hr2;refine HK.out _ _ ?_ ?_
      ·exact (Frm.refl _ w3).trans (hs.fr.mono (fun k hk => hk.imp id .inl)) (fun _ hk => .inl hk)
      clear HK K;try simp only [Act.put, SL]
      clear hS;have hS : Frm (fun k => F' k ∨ XB y k ∨ k = bs) w3 w5 := (Frm.refl _ w3).trans (hs.fr.mono (fun k hk => hk.imp id .inl)) (fun _ hk => .inl hk);have X5 : w5.heap[bs]? = some (stO p i fd N ak av ac ck cv cc) := (hs.fr.block bs BSL.out BSN.out).trans BSX.out;unfold stO at X5;have g0 := ufb X5 0;have g1 := ufb X5 1;have g2 := ufb X5 2;have g3 := ufb X5 3;have g4 := ufb X5 4;have g5 := ufb X5 5;have g6 := ufb X5 6;clear b0 b1 b2 b3 b4 b5 b6;obtain ⟨i0, i1, i2', i3, i4, i5, i6⟩ := cells7 X5;have HX5 := Hd X5;clear X5 hs hr2;refine Hu 5 40 hS ?_;simp only [SL]
      refine Hu 6 46 hS ?_;simp only [SL];refine Hu 7 47 hS ?_;simp only [SL];refine Hs 8 (fun K HK => ?_);go_simp;refine HK.out _ _ ?_ ?_
      ·exact put7_frm hS bs ⟨y.p, i2, fd2, N2.leaf, bk, N2.K.length, jk, bv, N2.V.length, jv, bc, N2.C.length, jc⟩ (.inl (.inr (.inr rfl)))
      clear HK K;try simp only [Act.put, SL]
      have hS9 := put7_frm hS bs ⟨y.p, i2, fd2, N2.leaf, bk, N2.K.length, jk, bv, N2.V.length, jv, bc, N2.C.length, jc⟩ (.inl (.inr (.inr rfl)));clear hS;unfold put7 at hS9;have hS := hS9;clear hS9 g0 g1 g2 g3 g4 g5 g6 i0 i1 i2' i3 i4 i5 i6;refine Hu 9 8 hS ?_;simp only [SL];refine wpAnyH_done (by kernel_rfl) ?_ _;have FE : Frm (fun k => k = bs) w5 (put7 w5 bs ⟨y.p, i2, fd2, N2.leaf, bk, N2.K.length, jk, bv, N2.V.length, jv, bc, N2.C.length, jc⟩) := put7_frm (Frm.refl _ w5) _ _ (.inl rfl)
      have XE := put7_block HX5.out ⟨y.p, i2, fd2, N2.leaf, bk, N2.K.length, jk, bv, N2.V.length, jv, bc, N2.C.length, jc⟩;obtain ⟨lo, hJn⟩ := del_next HJ.out HW2.out HF2.out HBW.out HB3.out HS.out HR2.out FE XE;have FIN := Hd hJn;have WN1 := Hd (wayN_of hJn.way);have WN2 := Hd (wayN_of HJ.out.way);clear hS FE XE hJn;unfold put7 at FIN WN1;go_wp2_with fail;go_roundw
      case rel => exact ⟨fs', ys', hh + 1, dk2, st2, r2, F2, FW, y.p, i2, fd2, N2, bk, bv, bc, jk, jv, jc, lo, rfl, Nat.le_of_succ_le HFH.out, FIN.out⟩
      case measure =>
       rw [WN1.out, WN2.out];simp only [List.length_reverse, List.length_cons];omega
 ·have e2 : getB key (entsM F0) = false := by unfold getB; rw [hget]; rfl
  have FIN : Hid (DelR w d s dk st F key (entsM F0) (.returned (.tuple #[.int .i64 root, .bool false, .int .i64 0])) w4) := Hd ⟨root, dk, st, by rw [e2], HENDS.out dk st _ w4 ⟨FV, HP.out.ts, HP.out.fr, fun k hk => .inl hk⟩, by rw [e2]; exact HTI.out, To.refl HG.out⟩;obtain ⟨d0, d1, d2, d3, d4, d5, d6⟩ := cells7 X4;clear X4 hget e2;go_wp2_with fail;go_ret3;exact FIN.out
theorem tdel_nil (w : World) (s : Nat) (key : Int) :
  Calls Tryz.prog 18 #[.pointer (some ⟨s, 0, none⟩), .int .i64 0, .int .u64 key] w fun e w' => e = .returned (.tuple #[.int .i64 0, .bool false, .int .i64 0]) ∧ Below w.heap.size w w' := by
 go_enter Tryz.func18, Tryz.ntmps18;go_wp2_with fail;go_ret3;exact ⟨rfl, Br⟩
theorem delE_off (key : Int) (E : List Ent) (h : getB key E = false) : delE key E = E := by
 unfold delE;refine List.filter_eq_self.2 fun e he => decide_eq_true fun e1 => ?_
 unfold getB getE at h;have : (E.find? fun e => decide (e.1 = key)).isSome = true := List.find?_isSome.2 ⟨e, he, decide_eq_true e1⟩;rw [Option.isSome_map, this] at h
 cases h
def DelT (w : World) (d s : Nat) (dk : DkS) (st : ShS) (F : Nat → Prop) (key : Int) (E : List Ent) (e : Ending) (w' : World) : Prop :=
 ∃ q dk' st', e = .returned (.tuple #[.int .i64 q, .bool (getB key E), .int .i64 0]) ∧ SDPost w d s dk' st' F w' ∧ TreeI dk' st' q (delE key E) ∧ To dk st dk' st'
theorem used_none (st : ShS) (h : st.h = fmtH) (size k : Nat) : usedL st size k = 0 := by
 induction k with
 | zero => rfl
 | succ k ih => unfold usedL; rw [ih, h]; simp [fmt_used]
theorem delE_len (k : Int) (E : List Ent) : (delE k E).length ≤ E.length := List.length_filter_le _ _
def scanE (key : Int) (E : List Ent) : List Ent := E.filter fun e => decide (key ≤ e.1)
theorem ents_zip : ∀ (K : List Int) (V : List ByteArray), entsM (leafM K V) = K.zip V := by
 intro K
 induction K with
 | nil => intro V; cases V <;> rfl
 | cons k K ih =>
  intro V
  cases V with
  | nil => rfl
  | cons v V => simp only [leafM, entsM_ent, ih, List.zip_cons_cons]
theorem zip_fst {K : List Int} {V : List ByteArray} {e : Ent} (h : e ∈ K.zip V) : e.1 ∈ K := (List.of_mem_zip (a := e.1) (b := e.2) h).1
theorem scan_leaf {R : Int → Option Nod} {N : Nod} {F : List Mk} {P : List Int} (ht : NodT R 0 N F P) (hs : SortM F) (key : Int) :
  ∃ i fd, findN N key = (i, fd) ∧ i ≤ N.K.length ∧ scanE key (entsM F) = (N.K.zip N.V).drop i := by
 have hw := whole_of ht;have hr := rise_of_sort ht hs;obtain ⟨h1, h2, h3, rfl, rfl⟩ := ht
 have step : ∀ i, i ≤ N.K.length → (∀ x ∈ N.K.take i, x < key) → (∀ x ∈ N.K.drop i, key ≤ x) → scanE key (entsM (leafM N.K N.V)) = (N.K.zip N.V).drop i := by
  intro i hi ha hb
  have hd : N.K.zip N.V = (N.K.take i).zip (N.V.take i) ++ (N.K.drop i).zip (N.V.drop i) := by
   rw [← List.zip_append (by simp [h2])];rw [List.take_append_drop, List.take_append_drop]
  rw [ents_zip]
  conv => lhs; rw [hd]
  unfold scanE;rw [List.filter_append, filter_none _ _ (fun e he => decide_eq_false (by have := ha _ (zip_fst he); omega)), filter_all _ _ (fun e he => decide_eq_true (hb _ (zip_fst he))), List.nil_append];exact (List.drop_zipWith (f := Prod.mk) (l := N.K) (l' := N.V) (i := i)).symm
 obtain ⟨q, h⟩ := findL key N.K 0 hr
 rcases h with ⟨e1, e2, e3, e4, e5⟩ | ⟨e1, e2, e3, e4⟩
 ·refine ⟨q, true, ?_, by omega, step q (by omega) e4 fun x hx => ?_⟩
  ·unfold findN; rw [if_pos hw, h1, e1, Nat.zero_add]
  ·have hq : N.K.drop q = key :: N.K.drop (q + 1) := by
    rw [List.drop_eq_getElem_cons e2]
    congr 1
    rw [List.getElem?_eq_getElem e2] at e3;exact Option.some.inj e3
   rw [hq] at hx
   rcases List.mem_cons.1 hx with rfl | hx
   ·exact Int.le_refl _
   ·have := e5 x hx; omega
 ·refine ⟨q, false, ?_, e2, step q e2 e3 fun x hx => by have := e4 x hx; omega⟩
  unfold findN; rw [if_pos hw, h1, e1, Nat.zero_add]
theorem entsM_inter : ∀ (K : List Int) (Q : List Kid), Q.length = K.length + 1 → entsM (interM K Q) = (Q.map fun q => entsM q.F).flatten := by
 intro K
 induction K with
 | nil =>
  intro Q h
  match Q, h with
  | [q], _ => simp [interM]
 | cons k K ih =>
  intro Q h
  match Q, h with
  | q :: Q, h =>
   show entsM (q.F ++ (k, none) :: interM K Q) = _
   rw [entsM_append, entsM_sep, ih Q (by simpa using h)]
   rfl
theorem sort_kids : ∀ (K : List Int) (Q : List Kid), Q.length = K.length + 1 → SortM (interM K Q) → ∀ q ∈ Q, SortM q.F := by
 intro K
 induction K with
 | nil =>
  intro Q h hs q hq
  match Q, h with
  | [q0], _ => rw [List.mem_singleton] at hq; subst hq; exact hs
 | cons k K ih =>
  intro Q h hs q hq
  match Q, h with
  | q0 :: Q, h =>
   obtain ⟨s1, s2, s3⟩ := SortM_append.1 (show SortM (q0.F ++ (k, none) :: interM K Q) from hs)
   rcases List.mem_cons.1 hq with rfl | hq
   ·exact s1
   ·exact ih Q (by simpa using h) (SortM_cons.1 s2).2 q hq
theorem scanE_append (key : Int) (A B : List Ent) : scanE key (A ++ B) = scanE key A ++ scanE key B := List.filter_append ..
theorem scanE_flat (key : Int) (Q : List Kid) : scanE key (Q.map fun q => entsM q.F).flatten = (Q.map fun q => scanE key (entsM q.F)).flatten := by
 induction Q with
 | nil => rfl
 | cons q Q ih => rw [List.map_cons, List.flatten_cons, scanE_append, ih]; rfl
theorem scan_kids (key : Int) : ∀ (i : Nat) (K : List Int) (Q : List Kid), Q.length = K.length + 1 → SortM (interM K Q) → i ≤ K.length → (∀ x ∈ K.take i, x ≤ key) → scanE key (entsM (interM K Q)) = ((Q.drop i).map fun q => scanE key (entsM q.F)).flatten := by
 intro i
 induction i with
 | zero => intro K Q h _ _ _; rw [entsM_inter K Q h, scanE_flat]; rfl
 | succ i ih =>
  intro K Q h hs hi ha
  match K, Q, h with
  | [], _, _ => exact absurd hi (by simp)
  | k :: K, q :: Q, h =>
   obtain ⟨s1, s2, s3⟩ := SortM_append.1 (show SortM (q.F ++ (k, none) :: interM K Q) from hs)
   show scanE key (entsM (q.F ++ (k, none) :: interM K Q)) = _
   rw [entsM_append, entsM_sep, scanE_append, ih K Q (by simpa using h) (SortM_cons.1 s2).2 (by simpa using hi) (fun x hx => ha x (by simp [hx]))];have hk : k ≤ key := ha k (by simp)
   have : scanE key (entsM q.F) = [] := by
    refine filter_none _ _ fun e he => decide_eq_false ?_
    obtain ⟨m, hm, hme⟩ := List.mem_filterMap.1 he;have := s3 m hm (k, none) (List.mem_cons_self ..);rw [ord_sep] at this;obtain ⟨a, b⟩ := m
    cases b with
    | none => simp [entM] at hme
    | some b => simp [entM] at hme; subst hme; rw [ord_ent] at this; show ¬ key ≤ a; omega
   rw [this]; rfl
theorem scan_branch {R : Int → Option Nod} {h : Nat} {N : Nod} {F : List Mk} {P : List Int} (ht : NodT R (h + 1) N F P) (hs : SortM F) (key : Int) :
  ∃ Q i, findN N key = (i, true) ∧ i ≤ N.K.length ∧ N.C = kP Q ∧ Q.length = N.K.length + 1 ∧ (∀ q ∈ Q, IsT R h q.p q.F q.P ∧ SortM q.F) ∧ scanE key (entsM F) = ((Q.drop i).map fun q => scanE key (entsM q.F)).flatten ∧ P = kPs Q := by
 have hw := whole_of ht;have hr := rise_of_sort ht hs;obtain ⟨h1, h2, Q, h3, h4, h5, rfl, rfl⟩ := NodT_succ.1 ht;obtain ⟨q, e1, e2, e3, e4⟩ := findB key N.K 0 hr;refine ⟨Q, q, ?_, e2, h3, h4, fun x hx => ⟨h5 x hx, sort_kids _ _ h4 hs x hx⟩, scan_kids key q N.K Q h4 hs e2 e3, rfl⟩;unfold findN; rw [if_pos hw, h1, e1, Nat.zero_add]
theorem kPs_drop (Q : List Kid) (i : Nat) : (kPs (Q.drop i)).length ≤ (kPs Q).length := by
 conv => rhs; rw [← List.take_append_drop i Q, kPs_append, List.length_append]
 omega
open Go Go.RowKit
structure OnC (C : Nat → Prop) (w w' : World) : Prop where
 os : w'.os = w.os
 tape : w'.tape = w.tape
 output : w'.output = w.output
 size : w.heap.size ≤ w'.heap.size
 block : ∀ k, k < w.heap.size → C k → w'.heap[k]? = w.heap[k]?
theorem OnC.of_frm {C G : Nat → Prop} {w w' : World} (h : Frm G w w') (hd : ∀ k, C k → ¬ G k) : OnC C w w' := ⟨h.os, h.tape, h.output, h.size, fun k hk hc => h.block k hk (hd k hc)⟩
theorem OnC.mono {C D : Nat → Prop} {w w' : World} (h : OnC C w w') (hd : ∀ k, D k → C k) : OnC D w w' := ⟨h.os, h.tape, h.output, h.size, fun k hk hc => h.block k hk (hd k hc)⟩
theorem OnC.trans {C : Nat → Prop} {a b c : World} (h : OnC C a b) (k : OnC C b c) : OnC C a c := ⟨k.os.trans h.os, k.tape.trans h.tape, k.output.trans h.output, Nat.le_trans h.size k.size, fun i hi hc => (k.block i (Nat.lt_of_lt_of_le hi h.size) hc).trans (h.block i hi hc)⟩
theorem OnC.alloc (C : Nat → Prop) (w : World) (o : Obj) : OnC C w (w.alloc o) := .of_frm (G := fun _ => False) ((Frm.refl _ w).alloc o) fun _ _ h => h
theorem putObj_frm (w : World) (l : Nat) (o : Obj) : Frm (fun k => k = l) w (w.putObj l o) := (Frm.refl _ w).grown (grownBy_putObj' w l o) fun k e => by cases e; exact .inl rfl
def Own1 (C : Nat → Prop) (w : World) (C' : Nat → Prop) (w' : World) : Prop := Frm C w w' ∧ ∀ k, C' k → C k ∨ w.heap.size ≤ k
def RoundOk (P : Program) (l : Nat) (args : Array Value) (C : Nat → Prop) (W : World) (Jt Jf : (Nat → Prop) → World → Prop) : Prop :=
 YieldAt Fence.wide 0 P l args W fun e W' => ∃ C', Own1 C W C' W' ∧ ((e = .returned (.bool true) ∧ Jt C' W') ∨ (e = .returned (.bool false) ∧ Jf C' W'))
def IterOk {α : Type} (P : Program) (gf : Nat) (lb : Array Value) (encs : α → Array Value) (G : Nat → Prop) (V : World → Prop) (Ys : List α) (W0 : World) : Prop :=
 ∀ (l : Nat) (J Jx : List α → (Nat → Prop) → World → Prop) (W : World) (C : Nat → Prop), Below W0.heap.size W0 W →
  (∀ s D A B, J s D A → OnC D A B → J s D B) → (∀ s D A B, Jx s D A → OnC D A B → Jx s D B) → (∀ s D A, J s D A → ∀ k, D k → k < A.heap.size) → (∀ s D A, Jx s D A → ∀ k, D k → k < A.heap.size) → (∀ k, C k → ¬ G k) →
  (∀ pre x C1 W1, (pre ++ [x]) <+: Ys → J pre C1 W1 → RoundOk P l (encs x) C1 W1 (J (pre ++ [x])) (Jx (pre ++ [x]))) →
  J [] C W →
  Calls P gf (#[.func (.yield l) #[] #[]] ++ lb) W fun e W' => (∃ v, e = .returned v) ∧ V W' ∧
   ∃ C', Own1 (fun k => C k ∨ G k) W C' W' ∧ (∀ k, C' k → C k ∨ W.heap.size ≤ k) ∧ (J Ys C' W' ∨ ∃ pre, pre <+: Ys ∧ Jx pre C' W')
def rPost {α : Type} (I : List α → (Nat → Prop) → World → Prop) (Ix : Code → List α → (Nat → Prop) → World → Prop) (s : List α) (C : Nat → Prop) (W : World) : Exit → Act → World → Prop
 | .normal, _, W' => ∃ C', Own1 C W C' W' ∧ I s C' W'
 | .ret, _, W' => ∃ C', Own1 C W C' W' ∧ Ix .ret s C' W'
 | .exit id, _, W' => ∃ C', Own1 C W C' W' ∧ Ix (.exit id) s C' W'
 | .goto t, _, W' => ∃ C', Own1 C W C' W' ∧ Ix (.goto t) s C' W'
 | .panic _, _, _ => False
 | .outgrown, _, _ => False
theorem rangeK {α : Type} {P : Program} {g : Operand} {ps : Array Tmp} {assign body : Code} {Q : Exit → Act → World → Prop} {a : Act} {w : World} {gf : Nat} {lb : Array Value}
  (hg : a.eval g = .func (.func gf) #[] lb) (eg : ∀ args w, (callFunc gf args).run P w = .ok (.enter gf args) w)
  {encs : α → Array Value} {G : Nat → Prop} {V : World → Prop} {Ys : List α} (hit : IterOk P gf lb encs G V Ys w) (hVp : ∀ W l o, w.heap.size ≤ l → V W → V (W.putObj l o)) (hGl : ∀ k, G k → k < w.heap.size) (hps : ∀ x, (encs x).size = ps.size)
  (C : Nat → Prop) (hCG : ∀ k, C k → ¬ G k) (I : List α → (Nat → Prop) → World → Prop) (Ix : Code → List α → (Nat → Prop) → World → Prop)
  (hI : ∀ s D A B, I s D A → OnC D A B → I s D B) (hIx : ∀ c s D A B, Ix c s D A → OnC D A B → Ix c s D B) (hlt : ∀ s D A, I s D A → ∀ k, D k → k < A.heap.size) (hltx : ∀ c s D A, Ix c s D A → ∀ k, D k → k < A.heap.size)
  (h0 : I [] C w)
  (hround : ∀ (l : Nat) (pre : List α) (x : α) (C1 : Nat → Prop) (W : World), (pre ++ [x]) <+: Ys → I pre C1 W → (∀ k, C1 k → C k ∨ w.heap.size ≤ k) → w.heap.size ≤ W.heap.size → ¬ C1 l → l < W.heap.size →
   assign.wpIn (Fence.wide.inRound l) 0 P (Exit.then (fun a' Wa => Below W.heap.size W Wa ∧ ∀ Wb, Frm (fun k => k = l) Wa Wb → I pre C1 Wb → body.wpIn (Fence.wide.inRound l) 0 P (rPost I Ix (pre ++ [x]) C1 Wb) a' Wb) (fun _ _ _ => False)) { tmps := (ps.zip (encs x)).foldl (fun t (p, v) => t.setIfInBounds p v) a.tmps, defers := [] } W)
  (hdone : ∀ (D : Nat) (C' : Nat → Prop) (W : World), w.heap.size ≤ D → I Ys C' W → V W → Frm (fun k => C k ∨ G k) w W → (∀ k, C' k → C k ∨ w.heap.size ≤ k) → ¬ C' D → W.heap[D]? = some (.deferred (some [])) → Q .normal { a with defers := { target := .collected D, args := #[] } :: a.defers } W)
  (hstop : ∀ (D : Nat) (c : Code) (pre : List α) (C' : Nat → Prop) (W : World), w.heap.size ≤ D → pre <+: Ys → Ix c pre C' W → V W → Frm (fun k => C k ∨ G k) w W → (∀ k, C' k → C k ∨ w.heap.size ≤ k) → ¬ C' D → W.heap[D]? = some (.deferred (some [])) → c.wpIn Fence.wide 0 P Q { a with defers := { target := .collected D, args := #[] } :: a.defers } W) :
  (Code.rangeFunc g ps assign body).wpIn Fence.wide 0 P Q a w := by
 refine wpIn_rangeFunc ?_;intro fn hfn;obtain ⟨rec, hrec⟩ : ∃ rec : LoopState → Option Code → Loop, rec = fun st pe => { state := st, pending := pe, fn, tmps := a.tmps, params := ps, assign, body, defers := w.heap.size } := ⟨_, rfl⟩
 obtain ⟨W1, hW1⟩ : ∃ W1, (w.alloc (.deferred (some []))).alloc (.loop (rec .ready none)) = W1 := ⟨_, rfl⟩
 obtain ⟨n0, hn0⟩ : ∃ n0, w.heap.size = n0 := ⟨_, rfl⟩
 have hz1 : W1.heap.size = n0 + 2 := by rw [← hW1]; simp; omega
 have hL1 : W1.heap[n0 + 1]? = some (.loop (rec .ready none)) := by
  rw [← hW1, ← hn0]; have := World.alloc_heap_new (w.alloc (.deferred (some []))) (.loop (rec .ready none)); rwa [World.size_alloc] at this
 have hK1 : W1.heap[n0]? = some (.deferred (some [])) := by
  rw [← hW1, ← hn0]; exact (Below.heap_alloc _ _ _ (by simp)).trans (World.alloc_heap_new w _)
 have hO1 : OnC C w W1 := by rw [← hW1]; exact (OnC.alloc C w _).trans (OnC.alloc C _ _)
 have hF1 : Frm (fun _ => False) w W1 := by rw [← hW1]; exact ((Frm.refl _ w).alloc _).alloc _
 have hb1 : Below w.heap.size w W1 := hF1.below (fun _ h => h.elim) (Nat.le_refl _);have hI1 : I [] C W1 := hI _ _ _ _ h0 hO1;have hC0 : ∀ k, C k → k < n0 := fun k hk => by have := hlt _ _ _ h0 k hk; omega
 refine ⟨n0 + 1, [{ target := .collected n0, args := #[] }], W1, { target := .fn (.func gf) lb, args := #[.func (.yield (n0 + 1)) #[] #[]] }, W1, gf,
  #[.func (.yield (n0 + 1)) #[] #[]] ++ lb, W1, ?_, ?_, fun _ _ => trivial, ?_, (fun h => by simp [Fence.wide] at h), ?_⟩
 ·rw [← hW1, hrec, ← hn0]; exact run_enterLoop_outer _ _ _ _ _
 ·simp only [resolve, hg]
  simp [go_sem]
 ·simp [invoke, go_sem, eg]
 ·refine callsIn_wide.2 ?_
  obtain ⟨X, hX⟩ : ∃ X : (Nat → Prop) → Nat → Prop, X = fun D k => D k ∨ k = n0 ∨ k = n0 + 1 := ⟨_, rfl⟩
  have xD : ∀ D k, X D k ↔ D k ∨ k = n0 ∨ k = n0 + 1 := fun D k => by rw [hX]
  obtain ⟨JJ, hJJ⟩ : ∃ JJ : List α → (Nat → Prop) → World → Prop, JJ = fun pre XD W => ∃ D, (∀ k, XD k ↔ X D k) ∧ I pre D W ∧ ¬ D n0 ∧ ¬ D (n0 + 1) ∧ W.heap[n0 + 1]? = some (.loop (rec .ready none)) ∧ W.heap[n0]? = some (.deferred (some [])) ∧ (∀ k, D k → C k ∨ n0 ≤ k) ∧ n0 ≤ W.heap.size := ⟨_, rfl⟩
  obtain ⟨JX, hJX⟩ : ∃ JX : List α → (Nat → Prop) → World → Prop, JX = fun pre XD W => ∃ c D, (∀ k, XD k ↔ X D k) ∧ Ix c pre D W ∧ ¬ D n0 ∧ ¬ D (n0 + 1) ∧ W.heap[n0 + 1]? = some (.loop (rec .done (some c))) ∧ W.heap[n0]? = some (.deferred (some [])) ∧ (∀ k, D k → C k ∨ n0 ≤ k) ∧ n0 ≤ W.heap.size := ⟨_, rfl⟩
  have lt_of : ∀ {W : World} {k : Nat} {o : Obj}, W.heap[k]? = some o → k < W.heap.size := fun h => (zl h)
  refine (hit (n0 + 1) JJ JX W1 (X C) hb1 ?_ ?_ ?_ ?_ ?_ ?_ ?_).mono ?_
  ·intro s D A B h ho
   rw [hJJ] at h ⊢;obtain ⟨E, e1, e2, e3, e4, e5, e6, e7, e8⟩ := h;refine ⟨E, e1, hI _ _ _ _ e2 (ho.mono fun k hk => (e1 k).2 ((xD E k).2 (.inl hk))), e3, e4, ?_, ?_, e7, Nat.le_trans e8 ho.size⟩
   ·exact (ho.block _ (lt_of e5) ((e1 _).2 ((xD E _).2 (.inr (.inr rfl))))).trans e5
   ·exact (ho.block _ (lt_of e6) ((e1 _).2 ((xD E _).2 (.inr (.inl rfl))))).trans e6
  ·intro s D A B h ho
   rw [hJX] at h ⊢;obtain ⟨c, E, e1, e2, e3, e4, e5, e6, e7, e8⟩ := h;refine ⟨c, E, e1, hIx _ _ _ _ _ e2 (ho.mono fun k hk => (e1 k).2 ((xD E k).2 (.inl hk))), e3, e4, ?_, ?_, e7, Nat.le_trans e8 ho.size⟩
   ·exact (ho.block _ (lt_of e5) ((e1 _).2 ((xD E _).2 (.inr (.inr rfl))))).trans e5
   ·exact (ho.block _ (lt_of e6) ((e1 _).2 ((xD E _).2 (.inr (.inl rfl))))).trans e6
  ·intro s D A h k hk
   rw [hJJ] at h;obtain ⟨E, e1, e2, e3, e4, e5, e6, e7, e8⟩ := h
   rcases (xD E k).1 ((e1 k).1 hk) with h1 | rfl | rfl
   ·exact hlt _ _ _ e2 k h1
   ·exact lt_of e6
   ·exact lt_of e5
  ·intro s D A h k hk
   rw [hJX] at h;obtain ⟨c, E, e1, e2, e3, e4, e5, e6, e7, e8⟩ := h
   rcases (xD E k).1 ((e1 k).1 hk) with h1 | rfl | rfl
   ·exact hltx _ _ _ _ e2 k h1
   ·exact lt_of e6
   ·exact lt_of e5
  ·intro k hk hGk
   rcases (xD C k).1 hk with h1 | rfl | rfl
   ·exact hCG k h1 hGk
   ·have := hGl _ hGk; omega
   ·have := hGl _ hGk; omega
  ·intro pre x CX W hpre hj
   rw [hJJ] at hj;obtain ⟨E, e1, e2, e3, e4, e5, e6, e7, e8⟩ := hj;have hlt5 := lt_of e5;have hy := run_yield (P := P) (args := encs x) e5 (by rw [hrec]; exact hps x);rw [hrec] at hy;refine ⟨fn, _, assign, body, hy, roundIn_of_wpIn hfn ?_⟩;refine wpIn_mono (hround (n0 + 1) pre x E W hpre e2 (fun k hk => by have := e7 k hk; rw [hn0]; exact this) (by omega) e4 hlt5) ?_;rintro e0 a' Wa hp0
   cases e0 with
   | normal =>
    obtain ⟨hba, hbody⟩ := hp0;have e5a := (hba.block _ hlt5).trans e5;have e6a := (hba.block _ (lt_of e6)).trans e6;have fba : Frm (fun _ => False) W Wa := Frm.of_below hba;refine ⟨_, run_beginRound e5a (by rw [hrec]), ?_⟩;obtain ⟨Wb, hWb⟩ : ∃ Wb, Wa.putObj (n0 + 1) (.loop { rec .ready none with state := .busy }) = Wb := ⟨_, rfl⟩
    rw [hWb];have fab : Frm (fun k => k = n0 + 1) Wa Wb := by rw [← hWb]; exact putObj_frm _ _ _
    have fb : Frm (fun k => k = n0 + 1) W Wb := (fba.mono fun _ h => h.elim).trans fab fun k hk => .inl hk
    have hl2 : Wb.heap[n0 + 1]? = some (.loop { rec .ready none with state := .busy }) := by rw [← hWb]; exact World.putObj_heap_same (lt_of e5a)
    have hk2 : Wb.heap[n0]? = some (.deferred (some [])) := (fb.block _ (lt_of e6) (by omega)).trans e6;have hIb : I pre E Wb := hI _ _ _ _ e2 (.of_frm fb fun k hk e => e4 (e ▸ hk));refine wpIn_mono (hbody Wb fab hIb) ?_
    have fin : ∀ (jump : Option Code) (E' : Nat → Prop) (W3 : World), Own1 E Wb E' W3 → (∀ k, E' k → k < W3.heap.size) →
      ∃ W4, (Instr.endRound (n0 + 1) jump).run P W3 = .ok (.bool jump.isNone) W4 ∧ Frm (fun k => k = n0 + 1) W3 W4 ∧ W4.heap[n0 + 1]? = some (.loop (rec (if jump.isNone then .ready else .done) jump)) ∧
      W4.heap[n0]? = some (.deferred (some [])) ∧ ¬ E' n0 ∧ ¬ E' (n0 + 1) ∧ (∀ k, E' k → C k ∨ n0 ≤ k) ∧ n0 ≤ W4.heap.size ∧ Own1 CX W (X E') W4 := fun jump E' W3 ho hl3' => by
     have hl3 := (ho.1.block _ (lt_of hl2) e4).trans hl2;have hk3 := (ho.1.block _ (lt_of hk2) e3).trans hk2;have hr := run_endRound (P := P) jump hl3;have s1 := fb.size;have s2 := ho.1.size;have n3 : ¬ E' n0 := fun hx => (ho.2 _ hx).elim e3 (fun hy => by omega)
     have n4 : ¬ E' (n0 + 1) := fun hx => (ho.2 _ hx).elim e4 (fun hy => by omega)
     rw [hrec] at hr ⊢;refine ⟨_, hr, putObj_frm _ _ _, World.putObj_heap_same (lt_of hl3), (World.putObj_heap_other (by omega)).trans hk3, n3, n4, fun k hk => (ho.2 k hk).elim (e7 k) (fun hy => .inr (by omega)), ?_, ?_, ?_⟩
     ·exact Nat.le_trans (show n0 ≤ W3.heap.size by omega) (putObj_frm W3 (n0 + 1) _).size
     ·refine ((fb.mono fun k hk => (e1 k).2 ((xD E k).2 (.inr (.inr hk)))).trans ho.1 fun k hk => .inl ((e1 k).2 ((xD E k).2 (.inl hk)))).trans (putObj_frm _ _ _) fun k hk => .inl ((e1 k).2 ((xD E k).2 (.inr (.inr hk))))
     ·intro k hk
      rcases (xD E' k).1 hk with h1 | h1 | h1
      ·rcases ho.2 k h1 with h2 | h2
       ·exact .inl ((e1 k).2 ((xD E k).2 (.inl h2)))
       ·exact .inr (by omega)
      ·exact .inl ((e1 k).2 ((xD E k).2 (.inr (.inl h1))))
      ·exact .inl ((e1 k).2 ((xD E k).2 (.inr (.inr h1))))
    rintro e a3 W3 hp
    cases e with
    | normal =>
     obtain ⟨E', ho, hi⟩ := hp;obtain ⟨W4, f1, f2, f3, f4, f5, f6, f7, f8, f9⟩ := fin none E' W3 ho (hlt _ _ _ hi);refine ⟨_, W4, f1, X E', f9, .inl ⟨rfl, ?_⟩⟩;rw [hJJ];exact ⟨E', fun _ => Iff.rfl, hI _ _ _ _ hi (.of_frm f2 fun k hk e => f6 (e ▸ hk)), f5, f6, f3, f4, f7, f8⟩
    | ret =>
     obtain ⟨E', ho, hi⟩ := hp;obtain ⟨W4, f1, f2, f3, f4, f5, f6, f7, f8, f9⟩ := fin (some .ret) E' W3 ho (hltx _ _ _ _ hi);refine ⟨_, W4, f1, X E', f9, .inr ⟨rfl, ?_⟩⟩;rw [hJX];exact ⟨.ret, E', fun _ => Iff.rfl, hIx _ _ _ _ _ hi (.of_frm f2 fun k hk e => f6 (e ▸ hk)), f5, f6, f3, f4, f7, f8⟩
    | exit id =>
     obtain ⟨E', ho, hi⟩ := hp;obtain ⟨W4, f1, f2, f3, f4, f5, f6, f7, f8, f9⟩ := fin (some (.exit id)) E' W3 ho (hltx _ _ _ _ hi);refine ⟨_, W4, f1, X E', f9, .inr ⟨rfl, ?_⟩⟩;rw [hJX];exact ⟨.exit id, E', fun _ => Iff.rfl, hIx _ _ _ _ _ hi (.of_frm f2 fun k hk e => f6 (e ▸ hk)), f5, f6, f3, f4, f7, f8⟩
    | goto t =>
     obtain ⟨E', ho, hi⟩ := hp;obtain ⟨W4, f1, f2, f3, f4, f5, f6, f7, f8, f9⟩ := fin (some (.goto t)) E' W3 ho (hltx _ _ _ _ hi);refine ⟨_, W4, f1, X E', f9, .inr ⟨rfl, ?_⟩⟩;rw [hJX];exact ⟨.goto t, E', fun _ => Iff.rfl, hIx _ _ _ _ _ hi (.of_frm f2 fun k hk e => f6 (e ▸ hk)), f5, f6, f3, f4, f7, f8⟩
    | panic ch => exact hp.elim
    | outgrown => exact hp.elim
   | exit id => exact hp0.elim
   | goto t => exact hp0.elim
   | ret => exact hp0.elim
   | panic ch => exact hp0.elim
   | outgrown => exact hp0.elim
  ·rw [hJJ]
   refine ⟨C, fun _ => Iff.rfl, hI1, fun h => ?_, fun h => ?_, hL1, hK1, fun k hk => .inl hk, by omega⟩
   ·have := hC0 _ h; omega
   ·have := hC0 _ h; omega
  ·rintro e W2 ⟨⟨v, rfl⟩, hV, C', ho, hCn, hend⟩
   have fr : ∀ o, Frm (fun k => C k ∨ G k) w (W2.putObj (n0 + 1) o) := fun o => by
    refine ((hF1.mono (G := fun k => C k ∨ G k) fun _ h => h.elim).trans ho.1 fun k hk => ?_).trans (putObj_frm _ _ _) fun k hk => .inr (by omega)
    rcases hk with hk | hk
    ·rcases (xD C k).1 hk with h1 | h1 | h1
     ·exact .inl (.inl h1)
     ·exact .inr (by omega)
     ·exact .inr (by omega)
    ·exact .inl (.inr hk)
   rcases hend with hj | ⟨pre, hpre, hj⟩
   ·rw [hJJ] at hj
    obtain ⟨E, e1, e2, e3, e4, e5, e6, e7, e8⟩ := hj;refine ⟨none, _, by have := run_endLoop (P := P) e5 (by rw [hrec]; simp); rw [hrec] at this; exact this, ?_⟩;exact hdone n0 E _ (by omega) (hI _ _ _ _ e2 (.of_frm (putObj_frm _ _ _) fun k hk e => e4 (e ▸ hk))) (hVp _ _ _ (by omega) hV) (fr _) (fun k hk => by have := e7 k hk; rw [hn0]; exact this) e3 ((World.putObj_heap_other (by omega)).trans e6)
   ·rw [hJX] at hj
    obtain ⟨c, E, e1, e2, e3, e4, e5, e6, e7, e8⟩ := hj;refine ⟨some c, _, by have := run_endLoop (P := P) e5 (by rw [hrec]; simp); rw [hrec] at this; exact this, ?_⟩;exact hstop n0 c pre E _ (by omega) hpre (hIx _ _ _ _ _ e2 (.of_frm (putObj_frm _ _ _) fun k hk e => e4 (e ▸ hk))) (hVp _ _ _ (by omega) hV) (fr _) (fun k hk => by have := e7 k hk; rw [hn0]; exact this) e3 ((World.putObj_heap_other (by omega)).trans e6)
def mkD (D : Nat) : Deferred := { target := .collected D, args := #[] }
def Marks (w : World) (Ds : List Nat) : Prop := Ds.Nodup ∧ ∀ D ∈ Ds, w.heap[D]? = some (.deferred (some []))
theorem Marks.nil (w : World) : Marks w [] := ⟨List.nodup_nil, fun D h => by cases h⟩
theorem Marks.lt {w : World} {Ds : List Nat} (h : Marks w Ds) : ∀ D ∈ Ds, D < w.heap.size := fun D hD => (zl (h.2 D hD))
theorem Marks.on {w w' : World} {Ds : List Nat} (h : Marks w Ds) (ho : ∀ D ∈ Ds, w'.heap[D]? = w.heap[D]?) : Marks w' Ds := ⟨h.1, fun D hD => (ho D hD).trans (h.2 D hD)⟩
theorem Marks.cons {w : World} {Ds : List Nat} {D : Nat} (h : Marks w Ds) (hn : D ∉ Ds) (hD : w.heap[D]? = some (.deferred (some []))) : Marks w (D :: Ds) :=
 ⟨List.nodup_cons.2 ⟨hn, h.1⟩, fun x hx => (List.mem_cons.1 hx).elim (fun e => e ▸ hD) (h.2 x)⟩
theorem leavesM {P : Program} {fn : Func} {tmps : Array Value} {R : Ending → World → Prop} : ∀ (Ds : List Nat) (w : World), Marks w Ds →
  (∀ w', Frm (fun k => k ∈ Ds) w w' → ∃ v, (results fn tmps).run P w' = .ok v w' ∧ R (.returned v) w') → LeavesInM Fence.wide 0 P fn tmps R (Ds.map mkD) .returning w := by
 intro Ds
 induction Ds with
 | nil => exact fun w _ h => h w (Frm.refl _ w)
 | cons D Ds ih =>
  intro w hm h;obtain ⟨hn, h2⟩ := hm;obtain ⟨n1, n2⟩ := List.nodup_cons.1 hn;refine ⟨by simp, .inl ⟨D, _, rfl, run_takeDeferred (h2 D (List.mem_cons_self ..)), ?_⟩⟩;have f := putObj_frm w D (.deferred none);refine ih _ ⟨n2, fun x hx => (f.block x ((zl (h2 x (List.mem_cons_of_mem _ hx)))) (fun e => n1 (e ▸ hx))).trans (h2 x (List.mem_cons_of_mem _ hx))⟩ fun w' hw => ?_
  exact h w' ((f.mono fun k hk => hk ▸ List.mem_cons_self ..).trans hw fun k hk => .inl (List.mem_cons_of_mem _ hk))
attribute [local go_sem] Oper.semAt_some
theorem box1 {w : World} {b : Nat} {v : Value} {T : TypeId} (h : w.heap[b]? = some (.cells #[v] T)) : w.cell? ⟨b, 0, none⟩ = some v ∧ w.frozen? ⟨b, 0, none⟩ = false := ⟨cells1 h, ufb h 0⟩
structure BoxP (w : World) (g : Nat) (p dp : Int) (b0 b1 b2 : Nat) : Prop where
 v : w.heap[b0]? = some (.cells #[.pointer (some ⟨g, 0, none⟩)] 138)
 p : w.heap[b1]? = some (.cells #[.int .i64 p] 3)
 d : w.heap[b2]? = some (.cells #[.int .i64 dp] 3)
theorem below_is (w : World) (g : Nat) (p dp : Int) :
  Calls Tryz.prog 53 #[.pointer (some ⟨g, 0, none⟩), .int .i64 p, .int .i64 dp] w fun e w' => e = .returned (.func (.func 91) #[] #[.pointer (some ⟨w.heap.size, 0, none⟩), .pointer (some ⟨w.heap.size + 1, 0, none⟩), .pointer (some ⟨w.heap.size + 2, 0, none⟩)]) ∧ BoxP w' g p dp w.heap.size (w.heap.size + 1) (w.heap.size + 2) ∧ Below w.heap.size w w' ∧ w'.heap.size = w.heap.size + 3 := by
 obtain ⟨wa, hwa⟩ : ∃ wa, ((w.alloc (.cells #[.pointer (some ⟨g, 0, none⟩)] 138)).alloc (.cells #[.int .i64 p] 3)).alloc (.cells #[.int .i64 dp] 3) = wa := ⟨_, rfl⟩
 have FIN : Hid (BoxP wa g p dp w.heap.size (w.heap.size + 1) (w.heap.size + 2) ∧ Below w.heap.size w wa ∧ wa.heap.size = w.heap.size + 3) := by
  have s1 : (w.alloc (.cells #[.pointer (some ⟨g, 0, none⟩)] 138)).heap.size = w.heap.size + 1 := by simp
  have s2 : ((w.alloc (.cells #[.pointer (some ⟨g, 0, none⟩)] 138)).alloc (.cells #[.int .i64 p] 3)).heap.size = w.heap.size + 2 := by simp
  refine Hd ⟨⟨?_, ?_, ?_⟩, ?_, ?_⟩
  ·rw [← hwa]; exact (hao _ _ (by omega)).trans ((hao _ _ (by omega)).trans (han w _))
  ·rw [← hwa]
   have := han (w.alloc (.cells #[.pointer (some ⟨g, 0, none⟩)] 138)) (.cells #[.int .i64 p] 3);rw [s1] at this;exact (hao _ _ (by omega)).trans this
  ·rw [← hwa]
   have := han ((w.alloc (.cells #[.pointer (some ⟨g, 0, none⟩)] 138)).alloc (.cells #[.int .i64 p] 3)) (.cells #[.int .i64 dp] 3);rw [s2] at this;exact this
  ·rw [← hwa]; exact (((Below.refl _ w).alloc (Nat.le_refl _) _).alloc (by omega) _).alloc (by omega) _
  ·rw [← hwa]; simp
 go_enter Tryz.func53, Tryz.ntmps53;go_wp2_with fail;go_ret;try rw [hwa]
 exact ⟨rfl, FIN.out⟩
def encP (p : Int) : Array Value := #[.int .i64 p]
def FP (F : Nat → Prop) (b0 b1 b2 : Nat) (k : Nat) : Prop := F k ∨ k = b0 ∨ k = b1 ∨ k = b2
def VP (d s g : Nat) (dk : DkS) (st : ShS) (r : Nat) (F : Nat → Prop) (n : Nat) (W : World) : Prop := ∃ r', r ≤ r' ∧ r' ≤ r + n ∧ TS W d s g dk st r' F
theorem BoxP.kept {w w' : World} {g : Nat} {p dp : Int} {b0 b1 b2 : Nat} (h : BoxP w g p dp b0 b1 b2) (e0 : w'.heap[b0]? = w.heap[b0]?) (e1 : w'.heap[b1]? = w.heap[b1]?) (e2 : w'.heap[b2]? = w.heap[b2]?) : BoxP w' g p dp b0 b1 b2 := ⟨e0.trans h.v, e1.trans h.p, e2.trans h.d⟩
theorem BoxP.lt {w : World} {g : Nat} {p dp : Int} {b0 b1 b2 : Nat} (h : BoxP w g p dp b0 b1 b2) : b0 < w.heap.size ∧ b1 < w.heap.size ∧ b2 < w.heap.size := ⟨(zl h.v), (zl h.p), (zl h.d)⟩
structure Under (W0 : World) (C0 G H : Nat → Prop) (w1 : World) (C : Nat → Prop) (w : World) : Prop where
 fr : Frm (fun k => C0 k ∨ G k) W0 w
 cn : ∀ k, C k → C0 k ∨ W0.heap.size ≤ k
 cg : ∀ k, C k → ¬ G k
 ch : ∀ k, C k → ¬ H k
 hk : ∀ k, H k → k < w1.heap.size ∧ w.heap[k]? = w1.heap[k]?
 sz : w1.heap.size ≤ w.heap.size
 gl : ∀ k, G k → k < W0.heap.size
 zz : W0.heap.size ≤ w1.heap.size
theorem Under.step {W0 w1 w w' : World} {C0 G H C : Nat → Prop} (h : Under W0 C0 G H w1 C w) {D : Nat → Prop} (hf : Frm D w w') (hD : ∀ k, D k → (G k ∨ W0.heap.size ≤ k) ∧ ¬ H k) : Under W0 C0 G H w1 C w' :=
 ⟨h.fr.trans hf fun k hk => (hD k hk).1.imp .inr id, h.cn, h.cg, h.ch, fun k hk => ⟨(h.hk k hk).1, (hf.block k (Nat.lt_of_lt_of_le (h.hk k hk).1 h.sz) (fun e => (hD k e).2 hk)).trans (h.hk k hk).2⟩, Nat.le_trans h.sz hf.size, h.gl, h.zz⟩
theorem Under.round {W0 w1 w w' : World} {C0 G H C C' : Nat → Prop} (h : Under W0 C0 G H w1 C w) (ho : Own1 C w C' w') : Under W0 C0 G H w1 C' w' := by
 have hs := h.sz;have hz := h.zz;refine ⟨h.fr.trans ho.1 fun k hk => (h.cn k hk).imp .inl id, fun k hk => ?_, fun k hk hg => ?_, fun k hk hH => ?_, fun k hk => ⟨(h.hk k hk).1, (ho.1.block k (Nat.lt_of_lt_of_le (h.hk k hk).1 hs) (fun e => h.ch k e hk)).trans (h.hk k hk).2⟩, Nat.le_trans hs ho.1.size, h.gl, h.zz⟩
 ·rcases ho.2 k hk with h1 | h1
  ·exact h.cn k h1
  ·exact .inr (by omega)
 ·rcases ho.2 k hk with h1 | h1
  ·exact h.cg k h1 hg
  ·have := h.gl k hg; omega
 ·rcases ho.2 k hk with h1 | h1
  ·exact h.ch k h1 hH
  ·have := (h.hk k hH).1; omega
theorem Under.after {W0 w1 w w6 w' : World} {C0 G H C C' GK : Nat → Prop} {y : Nat} (h : Under W0 C0 G H w1 C w) (h6 : Below w.heap.size w w6) (hf : Frm (fun k => (C k ∨ k = y) ∨ GK k) w6 w') (hK : ∀ k, GK k → (G k ∨ w.heap.size ≤ k) ∧ ¬ H k) (hy : w'.heap[y]? = w1.heap[y]?) (yW : W0.heap.size ≤ y) (hC : ∀ k, C' k → C k ∨ w.heap.size ≤ k) : Under W0 C0 G H w1 C' w' := by
 have hs := h.sz;have hz := h.zz;have h6s := h6.size;refine ⟨(h.fr.trans (G := fun _ => False) (Frm.of_below h6) fun _ h => h.elim).trans hf fun k hk => ?_, fun k hk => ?_, fun k hk hg => ?_, fun k hk hH => ?_, fun k hk => ⟨(h.hk k hk).1, ?_⟩, Nat.le_trans (Nat.le_trans hs h6s) hf.size, h.gl, h.zz⟩
 ·rcases hk with (hk | rfl) | hk
  ·exact (h.cn k hk).imp .inl id
  ·exact .inr yW
  ·rcases (hK k hk).1 with h1 | h1
   ·exact .inl (.inr h1)
   ·exact .inr (by omega)
 ·rcases hC k hk with h1 | h1
  ·exact h.cn k h1
  ·exact .inr (by omega)
 ·rcases hC k hk with h1 | h1
  ·exact h.cg k h1 hg
  ·have := h.gl k hg; omega
 ·rcases hC k hk with h1 | h1
  ·exact h.ch k h1 hH
  ·have := (h.hk k hH).1; omega
 ·by_cases e : k = y
  ·rw [e]; exact hy
  ·have hl := (h.hk k hk).1
   rw [hf.block k (by omega) (fun hx => by
    rcases hx with (hx | hx) | hx
    ·exact h.ch k hx hk
    ·exact e hx
    ·exact (hK k hx).2 hk), h6.block k (by omega)]
   exact (h.hk k hk).2
theorem TS.round {w w' : World} {d s g : Nat} {dk : DkS} {st : ShS} {r : Nat} {F C C' : Nat → Prop} (h : TS w d s g dk st r F) (ho : Own1 C w C' w') (hd : ∀ k, C k → ¬ F k) : TS w' d s g dk st r F := h.frm ho.1 fun k hk e => hd k e hk
theorem cell_as {w w' : World} {g i : Nat} (h : w'.heap[g]? = w.heap[g]?) : w'.cell? ⟨g, i, none⟩ = w.cell? ⟨g, i, none⟩ := by
 unfold World.cell?;rw [show (⟨g, i, none⟩ : Addr).block = g from rfl, h]
def IA {α : Type} (J : List α → (Nat → Prop) → World → Prop) (pre0 : List α) (y : Nat) (o : Obj) (pre : List α) (D : Nat → Prop) (W : World) : Prop := ∃ C2 : Nat → Prop, (∀ k, D k ↔ C2 k ∨ k = y) ∧ J (pre0 ++ pre) C2 W ∧ W.heap[y]? = some o ∧ ¬ C2 y
theorem IA.on {α : Type} {J : List α → (Nat → Prop) → World → Prop} (hJ : ∀ s D A B, J s D A → OnC D A B → J s D B) {pre0 : List α} {y : Nat} {o : Obj} (s : List α) (D : Nat → Prop) (A B : World) (h : IA J pre0 y o s D A) (ho : OnC D A B) : IA J pre0 y o s D B := by
 obtain ⟨C2, h1, h2, h3, h4⟩ := h;exact ⟨C2, h1, hJ _ _ _ _ h2 (ho.mono fun k hk => (h1 k).2 (.inl hk)), (ho.block y (zl h3) ((h1 y).2 (.inr rfl))).trans h3, h4⟩
theorem IA.lt {α : Type} {J : List α → (Nat → Prop) → World → Prop} (hl : ∀ s D A, J s D A → ∀ k, D k → k < A.heap.size) {pre0 : List α} {y : Nat} {o : Obj} (s : List α) (D : Nat → Prop) (A : World) (h : IA J pre0 y o s D A) (k : Nat) (hk : D k) : k < A.heap.size := by
 obtain ⟨C2, h1, h2, h3, h4⟩ := h
 rcases (h1 k).1 hk with h5 | rfl
 ·exact hl _ _ _ h2 k h5
 ·exact (zl h3)
theorem IA.next {α : Type} {J' : List α → (Nat → Prop) → World → Prop} {pre0 pre : List α} {y : Nat} {o : Obj} {D C2 C3 : Nat → Prop} {w w' : World} {x : α} (h1 : ∀ k, D k ↔ C2 k ∨ k = y) (hy : w.heap[y]? = some o) (hn : ¬ C2 y) (ho : Own1 C2 w C3 w') (hj : J' (pre0 ++ pre ++ [x]) C3 w') : ∃ D', Own1 D w D' w' ∧ IA J' pre0 y o (pre ++ [x]) D' w' := by
 have hyl := (zl hy);refine ⟨fun k => C3 k ∨ k = y, ⟨ho.1.mono fun k hk => (h1 k).2 (.inl hk), fun k hk => ?_⟩, C3, fun _ => Iff.rfl, by rw [← List.append_assoc]; exact hj, (ho.1.block y hyl hn).trans hy, fun h => ?_⟩
 ·rcases hk with hk | rfl
  ·exact (ho.2 k hk).imp (fun h => (h1 k).2 (.inl h)) id
  ·exact .inl ((h1 _).2 (.inr rfl))
 ·rcases ho.2 y h with h | h
  ·exact hn h
  ·omega
theorem kPs_at {Q : List Kid} {m : Nat} {q : Kid} (h : Q[m]? = some q) : kPs Q = kPs (Q.take m) ++ (q.P ++ kPs (Q.drop (m + 1))) ∧ kPs (Q.take (m + 1)) = kPs (Q.take m) ++ q.P := by
 obtain ⟨hm, rfl⟩ := List.getElem?_eq_some_iff.1 h;constructor
 ·conv => lhs; rw [← List.take_append_drop m Q, kPs_append, List.drop_eq_getElem_cons hm, kPs_cons]
 ·rw [List.take_succ_eq_append_getElem hm, kPs_append]
  simp [kPs]
theorem nodT_kids {R : Int → Option Nod} {h : Nat} {N : Nod} {F : List Mk} {P : List Int} (ht : NodT R h N F P) : ∃ Qs, N.C = kP Qs ∧ P = kPs Qs ∧ ∀ q ∈ Qs, ∃ h', h' < h ∧ IsT R h' q.p q.F q.P := by
 cases h with
 | zero => exact ⟨[], ht.2.2.1, ht.2.2.2.2, fun q hq => by cases hq⟩
 | succ h =>
  obtain ⟨_, _, Q, h1, _, h3, _, h5⟩ := NodT_succ.1 ht;exact ⟨Q, h1, h5, fun q hq => ⟨h, Nat.lt_succ_self _, h3 q hq⟩⟩
theorem endB {α : Type} {P : Program} {fn : Func} {tmps : Array Value} (hres : fn.results = #[]) {W w w1 : World} {C C' G H F : Nat → Prop} {d s g : Nat} {dk : DkS} {st : ShS} {r r' n : Nat} {J Jx : List α → (Nat → Prop) → World → Prop} {Ys : List α} (hGF : ∀ k, F k → G k)
  (hJ : ∀ s D A B, J s D A → OnC D A B → J s D B) (hJx : ∀ s D A B, Jx s D A → OnC D A B → Jx s D B) (hU : Under W C G H w1 C' w) (hT : TS w d s g dk st r' F) (h1 : r ≤ r') (h2 : r' ≤ r + n) (Ds : List Nat) (hm : Marks w Ds) (hD : ∀ D ∈ Ds, W.heap.size ≤ D ∧ ¬ C' D) (hJJ : J Ys C' w ∨ ∃ pre, pre <+: Ys ∧ Jx pre C' w) {z : Nat} (hz : W.heap.size = z) :
  LeavesInM Fence.wide 0 P fn tmps (fun e W' => (∃ v, e = .returned v) ∧ VP d s g dk st r F n W' ∧ ∃ C', Own1 (fun k => C k ∨ G k) W C' W' ∧ (∀ k, C' k → C k ∨ z ≤ k) ∧ (J Ys C' W' ∨ ∃ pre, pre <+: Ys ∧ Jx pre C' W')) (Ds.map mkD) .returning w := by
 subst hz;refine leavesM Ds w hm fun w' hf => ⟨_, results_none hres _ _ _, ⟨_, rfl⟩, ⟨r', h1, h2, hT.frm hf fun k hk hd => ?_⟩, C', ⟨hU.fr.trans hf fun k hk => .inr (hD k hk).1, fun k hk => (hU.cn k hk).imp .inl id⟩, hU.cn, ?_⟩
 ·have := (hD k hd).1
  have := hU.gl k (hGF k hk);omega
 ·have ho : OnC C' w w' := .of_frm hf fun k hk hd => (hD k hd).2 hk
  rcases hJJ with h | ⟨pre, hp, h⟩
  ·exact .inl (hJ _ _ _ _ h ho)
  ·exact .inr ⟨pre, hp, hJx _ _ _ _ h ho⟩
theorem below_iter (h : Nat) : ∀ (w : World) (d s g : Nat) (dk : DkS) (st : ShS) (r : Nat) (F : Nat → Prop) (hT : TS w d s g dk st r F) (hu : st.up = true) (p : Int) (Fm : List Mk) (P : List Int) (ht : IsT (Rn dk) h p Fm P) (dp : Int) (h1 : 1 ≤ dp) (hd : dp + h ≤ 10) (hr : r + P.length ≤ 640) (b0 b1 b2 : Nat) (hb : BoxP w g p dp b0 b1 b2) (hbF : ¬ F b0 ∧ ¬ F b1 ∧ ¬ F b2),
  IterOk Tryz.prog 91 #[.pointer (some ⟨b0, 0, none⟩), .pointer (some ⟨b1, 0, none⟩), .pointer (some ⟨b2, 0, none⟩)] encP (FP F b0 b1 b2) (VP d s g dk st r F P.length) P w := by
 induction h using Nat.strongRecOn with
 | _ h ih =>
  intro w d s g dk st r F hT hu p Fm P ht dp h1 hd hr b0 b1 b2 hb hbF l J Jx W C hW hJ hJx hlt hltx hCG hR h0;obtain ⟨M, PM, hM, hK, hNT, rfl⟩ := ht;have hTW := hT.below hW;have hlt0 := hb.lt;have hbW := hb.kept (hW.block _ hlt0.1) (hW.block _ hlt0.2.1) (hW.block _ hlt0.2.2);obtain ⟨y, hy⟩ : ∃ y, W.heap.size = y := ⟨_, rfl⟩
  obtain ⟨W1, hW1⟩ : ∃ W1, W.alloc (.cells #[.func (.yield l) #[] #[]] 118) = W1 := ⟨_, rfl⟩
  have bW1 : Below W.heap.size W W1 := by rw [← hW1]; exact below_made _ _
  have hT1 := hTW.below bW1;have ltW := hbW.lt;have hbW1 := hbW.kept (bW1.block _ ltW.1) (bW1.block _ ltW.2.1) (bW1.block _ ltW.2.2);have VN := Hd (vnode_is W1 d s g dk st r F hT1 hu (by simp only [List.length_cons] at hr; omega) p dp (by omega) M hM);have c0 := (box1 hbW1.v).1;have c1 := (box1 hbW1.p).1;have c2 := (box1 hbW1.d).1;refine (callsIn_wide (n := 0)).1 (callsIn_of_wp_marks (F := Fence.wide) (n := 0) Tryz.func91 rfl trivial (wpIn_wide.2 ?_) rfl)
  simp only [Tryz.ntmps91, List.size_toArray, List.length_cons, List.length_nil, Nat.reduceAdd, Nat.reduceSub, Array.replicate_succ, Array.replicate_zero, List.push_toArray, List.append_toArray, List.nil_append, List.cons_append];go_upto_region 1 with fail
  go_wp2_with fail;refine VN.out.mono ?_;rintro e w2 ⟨⟨ak, av, ac, ck, cv, cc, rfl, hNR, q1, q2, q3, u1, u2⟩, hT2, hf2⟩;simp only [nodV];obtain ⟨nb, hnb⟩ : ∃ nb, w2.heap.size = nb := ⟨_, rfl⟩
  obtain ⟨w3, hw3⟩ : ∃ w3, w2.alloc (.cells #[.bool M.leaf, .slice ak M.K.length ck, .slice av M.V.length cv, .slice ac M.C.length cc] 97) = w3 := ⟨_, rfl⟩
  have s1 : W1.heap.size = y + 1 := by rw [← hW1, ← hy]; simp
  have s2 : y + 1 ≤ nb := by have := hf2.size; omega
  have X3 : w3.heap[nb]? = some (.cells #[.bool M.leaf, .slice ak M.K.length ck, .slice av M.V.length cv, .slice ac M.C.length cc] 97) := by
   rw [← hw3, ← hnb]; exact han w2 _
  have b23 : Below nb w2 w3 := by rw [← hw3, ← hnb]; exact below_made _ _
  have fg3 : Frm (fun k => k = g) W w3 := ((Frm.of_below bW1).trans hf2 fun k hk => .inl hk).trans (G := fun _ => False) (Frm.of_below (by rw [hnb]; exact b23)) fun _ h => h.elim
  have hgF : F g := by obtain ⟨FD, FS, _, he⟩ := hT2; exact (he g).2 (.inr (.inr rfl))
  have hT3 : TS w3 d s g dk st (r + 1) F := hT2.below (by rw [hnb]; exact b23);have hNR3 := hNR.below (by rw [hnb]; exact b23);have Y1 : W1.heap[y]? = some (.cells #[.func (.yield l) #[] #[]] 118) := by rw [← hW1, ← hy]; exact han _ _
  have hgW := hTW.lt g hgF;have Y3 : w3.heap[y]? = some (.cells #[.func (.yield l) #[] #[]] 118) := (b23.block _ (by omega)).trans ((hf2.block y (by omega) (by omega)).trans Y1);have hb3 : BoxP w3 g p dp b0 b1 b2 := hbW.kept (fg3.block _ ltW.1 (fun e => hbF.1 (e ▸ hgF))) (fg3.block _ ltW.2.1 (fun e => hbF.2.1 (e ▸ hgF))) (fg3.block _ ltW.2.2 (fun e => hbF.2.2 (e ▸ hgF)));obtain ⟨H, hH⟩ : ∃ H : Nat → Prop, H = fun k => k = y ∨ k = nb ∨ (∃ x, ac = some x ∧ k = x.block ∧ M.C ≠ []) ∨ k = b0 ∨ k = b1 ∨ k = b2 := ⟨_, rfl⟩
  have hC0 : ∀ k, C k → k < y := fun k hk => by have := hlt _ _ _ h0 k hk; omega
  have hU : Under W C (FP F b0 b1 b2) H w3 C w3 := by
   have hz3 := fg3.size;refine ⟨fg3.mono fun k hk => .inr (.inl (hk ▸ hgF)), fun k hk => .inl hk, hCG, fun k hk hh => ?_, fun k hh => ⟨?_, rfl⟩, Nat.le_refl _, fun k hk => ?_, hz3⟩
   ·have hk' := hC0 k hk
    rw [hH] at hh
    rcases hh with h2 | h2 | ⟨x, h2, h3, _⟩ | h2 | h2 | h2
    ·omega
    ·omega
    ·have := q3 x h2; omega
    ·exact hCG k hk (.inr (.inl h2))
    ·exact hCG k hk (.inr (.inr (.inl h2)))
    ·exact hCG k hk (.inr (.inr (.inr h2)))
   ·rw [hH] at hh
    have hlt3 : ∀ j, W.heap.size ≤ j → w3.heap[j]? ≠ none → j < w3.heap.size := fun j _ hj => by
     apply Decidable.byContradiction;intro hx;exact hj (Array.getElem?_eq_none (by omega))
    rcases hh with rfl | rfl | ⟨x, h2, h3, h4⟩ | rfl | rfl | rfl
    ·exact (zl Y3)
    ·exact (zl X3)
    ·rcases hNR3.c with h5 | ⟨bb, off, h5, h6, _⟩
     ·exact absurd (by simpa using h5) h4
     ·rw [h2] at h5; injection h5 with h5; rw [h3, h5]; exact h6
    ·omega
    ·omega
    ·omega
   ·rcases hk with hk | rfl | rfl | rfl
    ·exact hTW.lt k hk
    ·exact ltW.1
    ·exact ltW.2.1
    ·exact ltW.2.2
  have hJ3 : J [] C w3 := hJ _ _ _ _ h0 (.of_frm fg3 fun k hk e => hCG k hk (.inl (e ▸ hgF)));have RD := hR [] p C w3 ⟨PM, rfl⟩ hJ3;have HU := Hd hU;have HT3 := Hd hT3;have HNR := Hd hNR3;have HX3 := Hd X3;have HY3 := Hd Y3;have HB3 := Hd hb3;have HHH := Hd hH;have HCB : Hid (∀ x, ac = some x → y + 1 ≤ x.block) := Hd (fun x hx => by have := q3 x hx; omega);have hU0F : ∀ k, F k → k < y := fun k hk => by rw [← hy]; exact hTW.lt k hk
  have hlt0J := hlt;have HNB := Hd s2;have cy := (box1 Y3).1;have cp := (box1 hb3.p).1;clear hU hT3 hNR3 hNR q1 q2 q3 u1 u2 hT2 hf2 X3 b23 fg3 Y1 Y3 hb3 hH c0 c1 c2 hT1 hW1 bW1 hbW1 hJ3 VN s1 s2;go_upto_region 4 with fail
  try rw [hw3]
  clear hw3;refine (wpIn_wide (n := 0)).1 ?_;obtain ⟨fn, tmps, assign, body, hyl, hRR⟩ := RD;unfold encP at hyl;gi_wp2;refine ⟨rfl, ?_⟩;refine hRR.mono ?_;rintro e w4 ⟨C4, ho4, (⟨rfl, hJ4⟩ | ⟨rfl, hJ4⟩)⟩
  ·obtain ⟨Qs, hQC, hPM, hQs⟩ := nodT_kids hNT
   subst hPM;have U4 := HU.out.round ho4;have T4 := HT3.out.round ho4 fun k hk hf => HU.out.cg k hk (.inl hf)
   have hHnb : H nb := by rw [HHH.out]; exact .inr (.inl rfl)
   have X4 := (U4.hk nb hHnb).2.trans HX3.out;obtain ⟨_, _, _, n3⟩ := cells4 X4;have HU4 := Hd U4;have HT4 := Hd T4;have HJ4 := Hd hJ4;clear U4 T4 X4 hHnb ho4 hJ4 cy cp hyl;gi_wp2;go_wp2_with fail
   refine wp_loop (fun a wr => ∃ (m : Nat) (C1 : Nat → Prop) (r1 : Nat) (Ds : List Nat) (u8 u9 u31 u32 u33 u34 u35 u36 u37 u38 u39 u40 u41 u42 u43 u44 u45 u46 u47 u48 u49 : Value), m ≤ (kP Qs).length ∧ a = { tmps := #[.func (.yield l) #[] #[], .pointer (some ⟨b0, 0, none⟩), .pointer (some ⟨b1, 0, none⟩), .pointer (some ⟨b2, 0, none⟩), .pointer (some ⟨y, 0, none⟩), .pointer (some ⟨nb, 0, none⟩), .int .i64 0, undef, u8, u9, .tuple #[.agg #[.bool M.leaf, .slice ak M.K.length ck, .slice av M.V.length cv, .slice ac (kP Qs).length cc], .int .i64 0], .pointer (some ⟨g, 0, none⟩), .int .i64 p, .int .i64 dp, .tuple #[.agg #[.bool M.leaf, .slice ak M.K.length ck, .slice av M.V.length cv, .slice ac (kP Qs).length cc], .int .i64 0], .agg #[.bool M.leaf, .slice ak M.K.length ck, .slice av M.V.length cv, .slice ac (kP Qs).length cc], .int .i64 0, .int .i64 0, .bool false, undef, undef, undef, undef, .func (.yield l) #[] #[], .int .i64 p, .bool true, .bool false, .pointer (some ⟨nb, 3, none⟩), .slice ac (kP Qs).length cc, .int .i64 ((kP Qs).length : Int), .int .i64 (m : Int), u31, u32, u33, u34, u35, u36, u37, u38, u39, u40, u41, u42, u43, u44, u45, u46, u47, u48, u49], defers := Ds.map mkD } ∧ Hid (Under W C (FP F b0 b1 b2) H w3 C1 wr) ∧ Hid (TS wr d s g dk st r1 F) ∧ Hid (r + 1 ≤ r1 ∧ r1 ≤ r + 1 + (kPs (Qs.take m)).length) ∧ Hid (J (p :: kPs (Qs.take m)) C1 wr) ∧ Hid (Marks wr Ds ∧ ∀ D ∈ Ds, w3.heap.size ≤ D ∧ ¬ C1 D)) (fun a _ => (kP Qs).length - (intOf (a.tmps.getD 30 undef)).toNat) ?_ ?_
   ·exact ⟨0, C4, r + 1, [], _, _, _, _, _, _, _, _, _, _, _, _, _, _, _, _, _, _, _, _, _, Nat.zero_le _, rfl, HU4, HT4, Hd (by simp), Hd (by simpa [kPs] using HJ4.out), Hd ⟨Marks.nil _, fun D hD => by cases hD⟩⟩
   ·clear HU4 HT4 HJ4
    rintro a wr ⟨m, C1, r1, Ds, u8, u9, u31, u32, u33, u34, u35, u36, u37, u38, u39, u40, u41, u42, u43, u44, u45, u46, u47, u48, u49, hm, rfl, HUr, HTr, HRr, HJr, HMr⟩
    by_cases hlt : m < (kP Qs).length
    ·have hli : (m : Int) < ((kP Qs).length : Int) := by omega
     have hml : m < Qs.length := by rw [kP_length] at hlt; exact hlt
     obtain ⟨q, hq⟩ : ∃ q, Qs[m]? = some q := ⟨_, List.getElem?_eq_getElem hml⟩
     obtain ⟨h', hh', hIT⟩ := hQs q (List.mem_of_getElem? hq);obtain ⟨hk1, hk2⟩ := kPs_at hq;have hql : m < (M.C.map ikid).length := by rw [List.length_map, hQC]; exact hlt
     obtain ⟨cb, off, hac, hcbl, hcell⟩ := HNR.out.c.at m hql
     have hcv : (M.C.map ikid)[m]'hql = .int .i64 q.p := by
      have e : (M.C.map ikid)[m]? = some (.int .i64 q.p) := by
       rw [hQC, kP, List.map_map, List.getElem?_map, hq]
       rfl
      rw [List.getElem?_eq_getElem hql] at e;exact Option.some.inj e
     rw [hcv] at hcell
     have hHcb : H cb := by
      rw [HHH.out];refine .inr (.inr (.inl ⟨_, hac, rfl, fun e => ?_⟩));rw [hQC] at e;rw [e] at hlt;exact Nat.not_lt_zero _ hlt
     have hcr := (cell_as (i := off + m) (HUr.out.hk cb hHcb).2).trans hcell;have hHy : H y := by rw [HHH.out]; exact .inl rfl
     have hbr : BoxP wr g p dp b0 b1 b2 := HB3.out.kept (HUr.out.hk b0 (by rw [HHH.out]; exact .inr (.inr (.inr (.inl rfl))))).2 (HUr.out.hk b1 (by rw [HHH.out]; exact .inr (.inr (.inr (.inr (.inl rfl)))))).2 (HUr.out.hk b2 (by rw [HHH.out]; exact .inr (.inr (.inr (.inr (.inr rfl)))))).2;have hyr := (HUr.out.hk y hHy).2.trans HY3.out;have v0 := (box1 hbr.v).1;have v2 := (box1 hbr.d).1;have e1 : IntKind.i64.wrap (dp + 1) = dp + 1 := IntWalk.i64_in _ (by omega);have HIT := Hd hIT;have HK1 := Hd (And.intro hk1 hk2);have HBR := Hd hbr;have HYR := Hd hyr;have HML := Hd (And.intro hlt hml);subst hac
     clear hIT hk1 hk2 hcv hcell hHcb hHy hbr hyr hql hml hlt;go_wp2_with fail;refine (below_is wr g q.p (dp + 1)).mono ?_;rintro e w6 ⟨rfl, hbx, b6, s6⟩;obtain ⟨bk, hbk⟩ : ∃ bk, wr.heap.size = bk := ⟨_, rfl⟩
     rw [hbk] at hbx b6 s6 ⊢;go_wp2_with fail;have hTr := HTr.out;have hUr := HUr.out;have hT6 := hTr.below (by rw [hbk]; exact b6);have hFlt := hTr.lt;have hq0 : (kPs (Qs.take m)).length + (q.P.length + (kPs (Qs.drop (m + 1))).length) = (kPs Qs).length := by rw [HK1.out.1, List.length_append, List.length_append]
     have hit := ih h' hh' w6 d s g dk st r1 F hT6 hu q.p q.F q.P HIT.out (dp + 1) (by omega) (by omega) (by have := HRr.out; simp only [List.length_cons] at hr; omega) bk (bk + 1) (bk + 2) hbx ⟨fun h => by have := hFlt _ h; omega, fun h => by have := hFlt _ h; omega, fun h => by have := hFlt _ h; omega⟩;have hHyF : H y := by rw [HHH.out]; exact .inl rfl
     have hFH : ∀ k, F k → ¬ H k := fun k hk hh => by
      have hkW := hU0F k hk;rw [HHH.out] at hh
      rcases hh with rfl | rfl | ⟨x, h2, h3, _⟩ | rfl | rfl | rfl
      ·omega
      ·have := HNB.out; omega
      ·injection h2 with h2
       have : y + 1 ≤ cb := HCB.out _ rfl;rw [h3, ← h2] at hkW;have hkW' : cb < y := hkW;omega
      ·exact hbF.1 hk
      ·exact hbF.2.1 hk
      ·exact hbF.2.2 hk
     have hy6 : w6.heap[y]? = some (.cells #[.func (.yield l) #[] #[]] 118) := (b6.block y (by rw [← hbk]; exact (zl HYR.out))).trans HYR.out;have hCbk : ∀ k, C1 k → k < bk := fun k hk => by rw [← hbk]; exact hlt _ _ _ HJr.out k hk
     have hyW : y < bk := by rw [← hbk]; exact (zl HYR.out)
     have hJ6 : J (p :: kPs (Qs.take m)) C1 w6 := hJ _ _ _ _ HJr.out (.of_frm (G := fun _ => False) (Frm.of_below (by rw [hbk]; exact b6)) fun _ _ h => h)
     have AFT : ∀ (D : Nat) (C' C2 : Nat → Prop) (Wz : World), w6.heap.size ≤ D → (∀ k, C' k ↔ C2 k ∨ k = y) → Wz.heap[y]? = some (.cells #[.func (.yield l) #[] #[]] 118) → ¬ C2 y → Frm (fun k => (C1 k ∨ k = y) ∨ FP F bk (bk + 1) (bk + 2) k) w6 Wz → (∀ k, C' k → (C1 k ∨ k = y) ∨ w6.heap.size ≤ k) → ¬ C' D → Wz.heap[D]? = some (.deferred (some [])) → Under W C (FP F b0 b1 b2) H w3 C2 Wz ∧ (Marks Wz (D :: Ds) ∧ ∀ D' ∈ D :: Ds, w3.heap.size ≤ D' ∧ ¬ C2 D') := by
      intro D C' C2 Wz hDz hDi hy2 hn2 hfr hC' hnD hdef
      have U2 := hUr.after (C' := C2) (by rw [hbk]; exact b6) hfr (fun k hk => by
       rcases hk with hk | rfl | rfl | rfl
       ·exact ⟨.inl (.inl hk), hFH k hk⟩
       ·exact ⟨.inr (by omega), fun hh => by have := (hUr.hk _ hh).1; have := hUr.sz; omega⟩
       ·exact ⟨.inr (by omega), fun hh => by have := (hUr.hk _ hh).1; have := hUr.sz; omega⟩
       ·exact ⟨.inr (by omega), fun hh => by have := (hUr.hk _ hh).1; have := hUr.sz; omega⟩) (hy2.trans HY3.out.symm) (by omega) (fun k hk => by
       rcases hC' k ((hDi k).2 (.inl hk)) with (h1 | h1) | h1
       ·exact .inl h1
       ·exact absurd (h1 ▸ hk) hn2
       ·exact .inr (by omega))
      have hfz := hfr.size
      have hM2 : Marks Wz (D :: Ds) ∧ ∀ D' ∈ D :: Ds, w3.heap.size ≤ D' ∧ ¬ C2 D' := by
       have hsz := hUr.sz;refine ⟨(HMr.out.1.on fun D' hD' => ?_).cons (fun hm' => ?_) hdef, fun D' hD' => ?_⟩
       ·have hl := HMr.out.1.lt D' hD'
        rw [hfr.block D' (by omega) (fun hx => by
         rcases hx with (hx | rfl) | hx | rfl | rfl | rfl
         ·exact (HMr.out.2 D' hD').2 hx
         ·have := (HMr.out.2 _ hD').1; have := (hUr.hk _ hHyF).1; omega
         ·have := hU0F _ hx; have := (HMr.out.2 _ hD').1; have := (hUr.hk _ hHyF).1; omega
         ·omega
         ·omega
         ·omega), b6.block D' (by omega)]
       ·have := HMr.out.1.lt D hm'; omega
       ·rcases List.mem_cons.1 hD' with rfl | hD'
        ·exact ⟨by omega, fun hx => hnD ((hDi _).2 (.inl hx))⟩
        ·refine ⟨(HMr.out.2 D' hD').1, fun hx => ?_⟩
         have hl := HMr.out.1.lt D' hD'
         rcases hC' D' ((hDi D').2 (.inl hx)) with (h1 | h1) | h1
         ·exact (HMr.out.2 D' hD').2 h1
         ·exact hn2 (h1 ▸ hx)
         ·omega
      exact ⟨U2, hM2⟩
     refine (wpIn_wide (n := 0)).1 (rangeK rfl (enters_of Tryz.func91 (by kernel_rfl) rfl) hit (fun Wz lz o hz hv => ?_) (fun k hk => ?_) (by intro _; rfl) (fun k => C1 k ∨ k = y) (fun k hk hg => ?_) (IA J (p :: kPs (Qs.take m)) y (.cells #[.func (.yield l) #[] #[]] 118)) (fun c pre D Wz => c = .ret ∧ IA Jx (p :: kPs (Qs.take m)) y (.cells #[.func (.yield l) #[] #[]] 118) pre D Wz) (IA.on hJ) (fun c s D A B hh ho => ⟨hh.1, IA.on hJx s D A B hh.2 ho⟩) (IA.lt hlt0J) (fun c s D A hh => IA.lt hltx s D A hh.2) ⟨C1, fun _ => Iff.rfl, by rw [List.append_nil]; exact hJ6, hy6, fun e => hUr.ch y e hHyF⟩ ?_ ?_ ?_)
     ·obtain ⟨r', g1, g2, g3⟩ := hv
      exact ⟨r', g1, g2, g3.frm (putObj_frm Wz lz o) fun k hk e => by have := hT6.lt k hk; omega⟩
     ·rcases hk with hk | rfl | rfl | rfl
      ·exact hT6.lt k hk
      ·omega
      ·omega
      ·omega
     ·rcases hk with hk | rfl
      ·rcases hg with hg | rfl | rfl | rfl
       ·exact hUr.cg k hk (.inl hg)
       ·have := hCbk _ hk; omega
       ·have := hCbk _ hk; omega
       ·have := hCbk _ hk; omega
      ·rcases hg with hg | rfl | rfl | rfl
       ·exact hFH _ hg hHyF
       ·omega
       ·omega
       ·omega
     ·intro l' pre x D Wz hpre hI hD hz hnl hll
      unfold encP;gi_wp2;refine ⟨Br, fun Wb hfb hIb => ?_⟩;obtain ⟨C2, hDi, hjb, hyb, hnb⟩ := hIb
      obtain ⟨fn2, tmps2, assign2, body2, hyl2, hRR2⟩ := hR (p :: kPs (Qs.take m) ++ pre) x C2 Wb (by
       rw [HK1.out.1, List.append_assoc, List.cons_append];refine (List.prefix_cons_inj p).2 ((List.prefix_append_right_inj _).2 (hpre.trans (List.prefix_append _ _)))) hjb
      have cyb := (box1 hyb).1;unfold encP at hyl2;gi_wp2;refine ⟨rfl, ?_⟩;refine hRR2.mono ?_;rintro e w8 ⟨C8, ho8, (⟨rfl, hj8⟩ | ⟨rfl, hj8⟩)⟩
      ·gi_wp2
       exact IA.next hDi hyb hnb ho8 hj8
      ·gi_wp2
       obtain ⟨D', hD1, hD2⟩ := IA.next (J' := Jx) hDi hyb hnb ho8 hj8;exact ⟨D', hD1, rfl, hD2⟩
     ·intro D C' Wz hDz hI hV hfr hC' hnD hdef
      obtain ⟨C2, hDi, hj2, hy2, hn2⟩ := hI;obtain ⟨r', g1, g2, hT'⟩ := hV;obtain ⟨U2, hM2⟩ := AFT D C' C2 Wz hDz hDi hy2 hn2 hfr hC' hnD hdef;have hbz : BoxP Wz g p dp b0 b1 b2 := HB3.out.kept (U2.hk b0 (by rw [HHH.out]; exact .inr (.inr (.inr (.inl rfl))))).2 (U2.hk b1 (by rw [HHH.out]; exact .inr (.inr (.inr (.inr (.inl rfl)))))).2 (U2.hk b2 (by rw [HHH.out]; exact .inr (.inr (.inr (.inr (.inr rfl)))))).2;have z0 := (box1 hbz.v).1
      have z2 : Wz.cell? ⟨g, 2, none⟩ = some (.int .i64 0) := by
       obtain ⟨FD, FS, hi, _⟩ := hT';exact (vis_cells hi.v).2.2.1
      have HU2 := Hd U2;have HT2 := Hd hT';have HM2 := Hd hM2;have HJ2 : Hid (J (p :: kPs (Qs.take (m + 1))) C2 Wz) := Hd (by rw [HK1.out.2]; exact hj2);have HR2 : Hid (r + 1 ≤ r' ∧ r' ≤ r + 1 + (kPs (Qs.take (m + 1))).length) := Hd (by have := HRr.out; rw [HK1.out.2, List.length_append]; omega);have e4 : IntKind.i64.wrap ((m : Int) + 1) = ((m + 1 : Nat) : Int) := by rw [show (m : Int) + 1 = ((m + 1 : Nat) : Int) by omega]; exact IntWalk.i64_in _ (by have h2 := HNR.out.c2; have h3 := HNR.out.c3; have := HML.out.1; rw [hQC] at h2; unfold maxLen at h3; omega)
      clear U2 hT' hM2 hbz hj2 hit hFH hCbk hJ6 hy6 hfr hC' hDi;go_wp2_with fail;refine ⟨⟨m + 1, C2, r', D :: Ds, _, _, _, _, _, _, _, _, _, _, _, _, _, _, _, _, _, _, _, _, _, HML.out.1, rfl, HU2, HT2, HR2, HJ2, HM2⟩, ?_⟩;have := HML.out.1;simp [intOf];omega
     ·rintro D c pre C' Wz hDz hpre ⟨rfl, hI⟩ hV hfr hC' hnD hdef
      obtain ⟨C2, hDi, hj2, hy2, hn2⟩ := hI;obtain ⟨r', g1, g2, hT'⟩ := hV;obtain ⟨U2, hM2⟩ := AFT D C' C2 Wz hDz hDi hy2 hn2 hfr hC' hnD hdef;refine wpIn_wide.2 ?_;go_wp2_with fail;refine endB (P := Tryz.prog) rfl (fun k hk => .inl hk) hJ hJx U2 hT' (by have := HRr.out; omega) (by have := HRr.out; show r' ≤ r + ((kPs Qs).length + 1); omega) (D :: Ds) hM2.1 (fun D' hD' => ⟨Nat.le_trans U2.zz (hM2.2 D' hD').1, (hM2.2 D' hD').2⟩) (.inr ⟨p :: kPs (Qs.take m) ++ pre, ?_, hj2⟩) rfl;rw [HK1.out.1, List.cons_append]
      exact (List.prefix_cons_inj p).2 ((List.prefix_append_right_inj _).2 (hpre.trans (List.prefix_append _ _)))
    ·obtain rfl : m = (kP Qs).length := by omega
     have hli : ¬ ((kP Qs).length : Int) < ((kP Qs).length : Int) := by omega
     go_wp2_with fail;refine endB (P := Tryz.prog) rfl (fun k hk => .inl hk) hJ hJx HUr.out HTr.out (by have := HRr.out; omega) (by have := HRr.out; rw [kP_length, List.take_length] at this; omega) Ds HMr.out.1 (fun D hD => ⟨Nat.le_trans HUr.out.zz (HMr.out.2 D hD).1, (HMr.out.2 D hD).2⟩) (.inl ?_) hy;have := HJr.out;rw [kP_length, List.take_length] at this;exact this
  ·have U4 := HU.out.round ho4
   have T4 := HT3.out.round ho4 fun k hk hf => HU.out.cg k hk (.inl hf)
   gi_wp2;go_wp2_with fail;exact endB (P := Tryz.prog) rfl (fun k hk => .inl hk) hJ hJx U4 T4 (by omega) (by simp) [] (Marks.nil _) (fun D hD => by cases hD) (.inr ⟨[p], ⟨_, rfl⟩, hJ4⟩) rfl
section
variable {P : Program} {ops : Array Oper} {Q : Exit → Act → World → Prop} {md : Region.Mode} {S : World → Prop}
def wpAnyY (P : Program) (md : Region.Mode) (ops : Array Oper) (Q : Exit → Act → World → Prop) (S : World → Prop) : Nat → Array Bool → Act → World → Prop
 | 0, b, a, w => Region.ready md ops b = [] ∧ Q .normal a w
 | n + 1, b, a, w => (Region.ready md ops b = [] → Q .normal a w) ∧ ∀ i ∈ Region.ready md ops b, wpOpIn Fence.wide 0 P ops Q i (fun a' w' => S w' ∧ wpAnyY P md ops Q S n (b.setIfInBounds i true) a' w') a w
theorem anyIn_of : ∀ (n : Nat) (b : Array Bool) (a : Act) (w : World), wpAnyY P md ops Q S n b a w → wpAnyIn Fence.wide 0 P md ops Q n b a w
 | 0, _, _, _, h => h
 | n + 1, _, _, _, h => ⟨h.1, fun i hi => wpOpIn_mono (fun a' w' k => anyIn_of n _ a' w' k.2) (h.2 i hi)⟩
theorem regionY {id : Nat} {a : Act} {w : World} (hm : P.follows .mixedOrders = true) (h : wpAnyY P .any ops Q S ops.size (Array.replicate ops.size false) a w.drew) : (Code.region id ops true).wpIn Fence.wide 0 P Q a w :=
 wpIn_region_any hm (anyIn_of _ _ _ _ h)
theorem yieldsY {i : Nat} {o : Oper} {v : Value} {a : Act} (hi : ops[i]? = some o) (hy : YieldsIf P ops S o v a) {K : Act → World → Prop} {w : World} (hS : S w) (h : K (a.put o.dst v) w) : wpOpIn Fence.wide 0 P ops Q i K a w := by
 unfold wpOpIn;simp only [hi]
 rcases hy with ⟨hw, hv⟩ | ⟨hw, rfl⟩
 ·simp only [hw, if_true, Oper.wpIn, show Fence.wide.round = none from rfl, Oper.semAt_none, hv w hS, Oper.uponIn]
  exact ⟨fun _ _ => trivial, h⟩
 ·simp only [hw, Bool.false_eq_true, if_false]
  exact ⟨fun _ _ => trivial, h⟩
theorem putY {j : Nat} {oi oj : Oper} {v : Value} (hj : ops[j]? = some oj) (hap : oi.apart ops oj = true) (hsi : ∀ cs b, oi.op ≠ .select cs b) (hsj : ∀ cs b, oj.op ≠ .select cs b)
  (hQ : ∀ c a w, Q (.panic c) (a.put oi.dst v) w → Q (.panic c) a w) {K : Act → World → Prop} {a : Act} {w : World} (hy : YieldsIf P ops S oi v a) (h : wpOpIn Fence.wide 0 P ops Q j K (a.put oi.dst v) w) :
  wpOpIn Fence.wide 0 P ops Q j (fun a' w' => YieldsIf P ops S oi v a' ∧ K (a'.put oi.dst v) w') a w := by
 obtain ⟨h1, h2, h3⟩ := Oper.apart_spec hap;have keep : ∀ (a : Act), YieldsIf P ops S oi v a → ∀ u, YieldsIf P ops S oi v (a.put oj.dst u) := fun a hy u => hy.of_same (execOp_put oi hsi a oj.dst u h3) (wanted_put oi a oj.dst u h3)
 unfold wpOpIn at *;simp only [hj] at *;rw [wanted_put oj a oi.dst v h1] at h
 split
 ·rename_i hw
  rw [if_pos hw] at h;refine ⟨fun _ _ => trivial, ?_⟩;have h := h.2;rw [show Fence.wide.round = none from rfl, Oper.semAt_none] at h ⊢;rw [execOp_put oj hsj a oi.dst v h1] at h;generalize (execOp a.eval oj).run P w = r at *
  cases r with
  | ok x w' =>
   cases x <;> simp only [Oper.uponIn] at h ⊢
   case value u => exact ⟨keep a hy u, by rw [← Act.put_comm a v u h2]; exact h⟩
   case skip => exact ⟨keep a hy _, by rw [← Act.put_comm a v undef h2]; exact h⟩
   case defer d =>
    refine ⟨keep { a with defers := d :: a.defers } (hy.of_same rfl rfl) _, ?_⟩;rw [← Act.put_comm _ v undef h2, ← Act.put_defers];exact h
   case enter f args =>
    refine ⟨h.1, CallsIn.mono h.2 fun e w'' he => ?_⟩
    cases e with
    | returned u => exact ⟨keep a hy u, by rw [← Act.put_comm a v u h2]; exact he⟩
    | panicked c => exact hQ _ _ _ he
    | outgrown => exact he
   case row row args => exact ⟨h.1, RowsIn.mono h.2 fun u w'' he => ⟨keep a hy u, by rw [← Act.put_comm a v u h2]; exact he⟩⟩
   case round l f tmps assign body =>
    refine ⟨h.1, RoundIn.mono h.2 fun e w'' he => ?_⟩
    cases e with
    | returned u => exact ⟨keep a hy u, by rw [← Act.put_comm a v u h2]; exact he⟩
    | panicked c => exact hQ _ _ _ he
    | outgrown => exact he
  | halt x w' =>
   cases x <;> simp only [Oper.uponIn] at h ⊢
   case panic u => exact hQ _ _ _ h
 ·rename_i hw
  rw [if_neg hw] at h;exact ⟨fun _ _ => trivial, keep a hy _, by rw [← Act.put_comm a v undef h2]; exact h.2⟩
theorem firstY {i : Nat} {oi : Oper} {v : Value} (hi : ops[i]? = some oi) (hsel : ∀ (j : Nat) (o : Oper) cs b, ops[j]? = some o → o.op ≠ .select cs b) (hQ : ∀ c a w, Q (.panic c) (a.put oi.dst v) w → Q (.panic c) a w) :
  ∀ (n : Nat) (b : Array Bool) (a : Act) (w : World), (∀ j oj, ops[j]? = some oj → j ≠ i → b.getD j true = false → (∀ e ∈ oj.after, Region.binds md e = true → e.on ≠ i) → oi.apart ops oj = true) →
   i ∈ Region.ready md ops b → YieldsIf P ops S oi v a → S w → wpAnyY P md ops Q S n (b.setIfInBounds i true) (a.put oi.dst v) w → wpAnyY P md ops Q S (n + 1) b a w := by
 intro n
 induction n with
 | zero =>
  intro b a w _ hr hy hS H;refine ⟨fun h => (by rw [h] at hr; cases hr), fun j hj => ?_⟩
  by_cases hji : j = i
  ·subst hji; exact yieldsY hi hy hS ⟨hS, H⟩
  ·have := ready_mono hj hji
   rw [H.1] at this
   cases this
 | succ n ih =>
  intro b a w hfree hr hy hS H;refine ⟨fun h => (by rw [h] at hr; cases hr), fun j hj => ?_⟩
  by_cases hji : j = i
  ·subst hji; exact yieldsY hi hy hS ⟨hS, H⟩
  ·have h1 := H.2 j (ready_mono hj hji)
   obtain ⟨hjun, oj, hoj, hall⟩ := mem_ready.1 hj
   have hnot : ∀ e ∈ oj.after, Region.binds md e = true → e.on ≠ i := fun e he hb heq => by
    have h1 := hall e he hb;have h0 := (mem_ready.1 hr).1;rw [heq] at h1
    rcases Nat.lt_or_ge i b.size with h' | h'
    ·simp [h'] at h0 h1; rw [h0] at h1; cases h1
    ·simp [Array.getElem?_eq_none h'] at h1
   have h2 := putY hoj (hfree j oj hoj hji hjun hnot) (fun cs b => hsel i oi cs b hi) (fun cs b => hsel j oj cs b hoj) hQ hy h1;refine wpOpIn_mono (fun a' w' h3 => ⟨h3.2.1, ih (b.setIfInBounds j true) a' w' (fun k ok hk hki hun hno => ?_) (ready_mono hr (Ne.symm hji)) h3.1 h3.2.1 ?_⟩) h2
   ·refine hfree k ok hk hki ?_ hno
    by_cases hjk : j = k
    ·subst hjk; exact hjun
    ·rw [getD_set_ne true hjk] at hun; exact hun
   ·rw [Array.setIfInBounds_comm _ _ hji]
    exact h3.2.2
theorem takeY {i : Nat} (d : Tmp) {oi : Oper} (v : Value) {n : Nat} {b : Array Bool} {a : Act} {w : World} (hi : ops[i]? = some oi) (hd : oi.dst = some d) (hs : Region.noSelect ops = true) (hf : Region.free md ops b i = true) (hr : (Region.ready md ops b).contains i = true)
  (hQ : ∀ c a w, Q (.panic c) (a.put oi.dst v) w → Q (.panic c) a w) (hS : S w) (hw : Region.wanted oi (yielded ops a.tmps) = true) (hy : ∀ w, S w → (execOp a.eval oi).run P w = .ok (.value v) w)
  (h : wpAnyY P md ops Q S n (b.setIfInBounds i true) { tmps := a.tmps.setIfInBounds d v, defers := a.defers } w) : wpAnyY P md ops Q S (n + 1) b a w :=
 firstY hi (Region.noSelect_spec hs) hQ n b a w (Region.free_spec hi hf) (by simpa using hr) (.inl ⟨hw, hy⟩) hS (by rw [hd]; exact h)
theorem stepY {i : Nat} {oi : Oper} {n : Nat} {b : Array Bool} {a : Act} {w : World} (hi : ops[i]? = some oi) (hr : Region.ready md ops b = [i]) (hw : Region.wanted oi (yielded ops a.tmps) = true)
  (h : ∀ K : Act → World → Prop, (∀ a2 w2, S w2 → wpAnyY P md ops Q S n (b.setIfInBounds i true) a2 w2 → K a2 w2) → Oper.wpIn Fence.wide 0 P oi a w K Q) : wpAnyY P md ops Q S (n + 1) b a w := by
 refine ⟨fun e => (by rw [hr] at e; cases e), fun j hj => ?_⟩;rw [hr, List.mem_singleton] at hj;subst hj;unfold wpOpIn;simp only [hi, hw, if_true];exact h _ fun a2 w2 h1 h2 => ⟨h1, h2⟩
theorem doneY {b : Array Bool} {a : Act} {w : World} (hr : Region.ready md ops b = []) (h : Q .normal a w) : ∀ n, wpAnyY P md ops Q S n b a w
 | 0 => ⟨hr, h⟩
 | _ + 1 => ⟨fun _ => h, by rw [hr]; simp⟩
end
end Go.Proofs.YtmomlhiokggfbaaGreatDoor
