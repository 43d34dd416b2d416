/-
 TrB, TrSc, RgK, RgM, TrPg, Tx, Tg, TxnLongLaw.
-/
import Derived.Test.YtmomlhiokggfbaaGreatDoorD15
import Derived.Test.YtmomlhiokggfbaaGreatDoorD04
import Derived.RangeFuncNested
import Derived.RangeFuncLeaves
import Derived.LoopIn
import Derived.TacticsIn
import Derived.Test.YtmomlhiokggfbaaGreatDoorD02
import Derived.Test.YtmomlhiokggfbaaGreatDoorD12
import Derived.BigQuiet
import Derived.Deep.DeepCutAuto
namespace Go.Proofs.YtmomlhiokggfbaaGreatDoor
open Go.RowKit
set_option maxRecDepth 20000
set_option maxHeartbeats 12800000
set_option linter.unusedVariables false
set_option linter.unusedSimpArgs false
theorem IsT.lowN {dk : DkS} {h H0 : Nat} {root : Int} {F : List Mk} {P : List Int} (ht : IsT (Rn dk) h root F P) (hE : (entsM F).length < 2 ^ (H0 + 1)) : h ≤ H0 := by
 have := (IsT_count ht).2;apply Decidable.byContradiction;intro hx;have h10 : 2 ^ (H0 + 1) ≤ 2 ^ h := Nat.pow_le_pow_right (by decide) (by omega);omega
theorem tput_gen (w : World) (d s : Nat) (dk : DkS) (st : ShS) (F : Nat → Prop) (h : SD w d s dk st F) (G : Good dk st) (root : Int) (E : List Ent) (ht : TreeI dk st root E) (H0 : Nat) (h9 : H0 ≤ 8) (hE : E.length < 2 ^ (H0 + 1)) (hroom : Room dk st (2 * H0 + 3)) (key : Int) (hk : 0 ≤ key ∧ key ≤ 18446744073709551615) (val : ByteArray) (hv : val.size ≤ 40) :
  Calls Tryz.prog 16 #[.pointer (some ⟨s, 0, none⟩), .int .i64 root, .int .u64 key, .string val] w (PutR w d s dk st F (insE key val E)) := by
 have VP : Hid (Calls Tryz.prog 45 #[.pointer (some ⟨w.heap.size, 0, none⟩), .int .i64 root, .int .u64 key, .string val] (w.alloc (visO s 0)) fun e w' => ∃ q, e = .returned (.tuple #[.int .i64 q, .int .i64 0]) ∧ PutR w d s dk st F (insE key val E) (.returned (.tuple #[.int .i64 q, .int .i64 0])) w') := Hd (by
  by_cases h0 : root = 0
  ·obtain ⟨rfl, hl⟩ := ht.root0 h0
   subst h0;refine (vput_nil (w.alloc (visO s 0)) d s w.heap.size dk st 0 _ h.visit G (hroom.le (by omega)) hl key hk val hv).mono ?_;rintro e w' ⟨q, dk', st', r', rfl, hp, hT, hto, _⟩;exact ⟨q, rfl, q, dk', st', rfl, TSPost.ends (dk := dk) (st := st) hp, hT, hto⟩
  ·have hlt : E.length ≤ 600 := by
    have : 2 ^ (H0 + 1) ≤ 2 ^ 9 := Nat.pow_le_pow_right (by decide) (by omega);omega
   obtain ⟨hh, F0, P0, hi, hs, rfl, hl, _⟩ := ht.rootN h0 hlt;have hh0 := hi.lowN hE;refine (vput_some (w.alloc (visO s 0)) d s w.heap.size dk st 0 _ h.visit G root h0 hh F0 P0 hi hs hl (by omega) (by omega) (hroom.le (by omega)) key hk val hv).mono ?_;rintro e w' ⟨q, dk', st', r', rfl, hp, hT, hto, _⟩;exact ⟨q, rfl, q, dk', st', rfl, TSPost.ends (dk := dk) (st := st) hp, hT, hto⟩)
 have hv1 : ¬ (40 : Int) < (val.size : Int) := by omega
 unfold visO at VP;clear h G ht hE hk hv hroom h9;go_enter Tryz.func16, Tryz.ntmps16;go_wp2_with fail;refine VP.out.mono ?_;rintro e w1 ⟨q, rfl, hp⟩;have FIN := Hd hp;clear hp;go_wp2_with fail;go_ret2;exact FIN.out
def TrF (w : World) (d s n : Nat) (root : Int) (E : List Ent) (F : Nat → Prop) : Prop := ∃ dk st, SD w d s dk st F ∧ Good dk st ∧ TreeI dk st root E ∧ dk.S.length = n ∧ st.h = fmtH
def TrR (w0 : World) (R : List Nat) (w : World) (d s n : Nat) (root : Int) (E : List Ent) : Prop :=
 Below w0.heap.size w0 w ∧ ∃ F, TrF w d s n root E F ∧ (∀ k, F k → w0.heap.size ≤ k) ∧ ∀ k ∈ R, k < w.heap.size ∧ ¬ F k
def KeptL (R : List Nat) (w w' : World) : Prop := ∀ k ∈ R, w'.heap[k]? = w.heap[k]?
theorem TrF.frm {w w' : World} {d s n : Nat} {root : Int} {E : List Ent} {F G : Nat → Prop} (h : TrF w d s n root E F) (hf : Frm G w w') (hd : ∀ k, F k → ¬ G k) : TrF w' d s n root E F := by
 obtain ⟨dk, st, h1, h2⟩ := h;exact ⟨dk, st, h1.frm hf hd, h2⟩
theorem TrF.lt {w : World} {d s n : Nat} {root : Int} {E : List Ent} {F : Nat → Prop} (h : TrF w d s n root E F) (k : Nat) (hk : F k) : k < w.heap.size := by
 obtain ⟨dk, st, h1, _⟩ := h;exact h1.lt k hk
theorem TrR.size {w0 : World} {R : List Nat} {w : World} {d s n : Nat} {root : Int} {E : List Ent} (h : TrR w0 R w d s n root E) : Below w0.heap.size w0 w := h.1
theorem TrR.below {w0 : World} {R : List Nat} {w w' : World} {d s n : Nat} {root : Int} {E : List Ent} (h : TrR w0 R w d s n root E) (hb : Below w.heap.size w w') : TrR w0 R w' d s n root E := by
 obtain ⟨h1, F, h2, h3, h4⟩ := h;exact ⟨h1.trans (hb.mono h1.size), F, h2.frm (G := fun _ => False) (Frm.of_below hb) (fun _ _ h => h), h3, fun k hk => ⟨Nat.lt_of_lt_of_le (h4 k hk).1 hb.size, (h4 k hk).2⟩⟩
theorem TrR.kept {w0 : World} {R : List Nat} {w w' : World} {d s n : Nat} {root : Int} {E : List Ent} (h : TrR w0 R w d s n root E) (hb : Below w.heap.size w w') : KeptL R w w' := by
 obtain ⟨h1, F, h2, h3, h4⟩ := h;exact fun k hk => hb.block k (h4 k hk).1
theorem TrR.turn {w0 : World} {R : List Nat} {w w' : World} {d s n : Nat} {root : Int} {E : List Ent} (h : TrR w0 R w d s n root E) {k : Nat} (hk : k ∈ R) (h0 : w0.heap.size ≤ k) (hf : Frm (fun x => x = k) w w') : TrR w0 R w' d s n root E := by
 obtain ⟨h1, F, h2, h3, h4⟩ := h;refine ⟨h1.trans (hf.below (fun i hi => by subst hi; exact h0) h1.size), F, h2.frm hf (fun i hi e => (h4 k hk).2 (e ▸ hi)), h3, fun i hi => ⟨Nat.lt_of_lt_of_le (h4 i hi).1 hf.size, (h4 i hi).2⟩⟩
theorem TrR.more {w0 : World} {R : List Nat} {w w' : World} {d s n : Nat} {root : Int} {E : List Ent} (h : TrR w0 R w d s n root E) (hb : Below w.heap.size w w') (k : Nat) (h1 : w.heap.size ≤ k) (h2 : k < w'.heap.size) : TrR w0 (k :: R) w' d s n root E := by
 obtain ⟨a1, F, a2, a3, a4⟩ := h.below hb;obtain ⟨_, F', b2, b3, b4⟩ := h;refine ⟨a1, F', b2.frm (G := fun _ => False) (Frm.of_below hb) (fun _ _ h => h), b3, fun i hi => ?_⟩
 rcases List.mem_cons.1 hi with rfl | hi
 ·exact ⟨h2, fun hx => by have := b2.lt _ hx; omega⟩
 ·exact ⟨(a4 i hi).1, (b4 i hi).2⟩
theorem TrR.sub {w0 : World} {R R' : List Nat} {w : World} {d s n : Nat} {root : Int} {E : List Ent} (h : TrR w0 R w d s n root E) (hs : ∀ k ∈ R', k ∈ R) : TrR w0 R' w d s n root E := by
 obtain ⟨h1, F, h2, h3, h4⟩ := h;exact ⟨h1, F, h2, h3, fun k hk => h4 k (hs k hk)⟩
theorem TrR.lt {w0 : World} {R : List Nat} {w : World} {d s n : Nat} {root : Int} {E : List Ent} (h : TrR w0 R w d s n root E) (k : Nat) (hk : k ∈ R) : k < w.heap.size := by
 obtain ⟨h1, F, h2, h3, h4⟩ := h;exact (h4 k hk).1
theorem TrR.post {w0 : World} {R : List Nat} {w w' : World} {d s n : Nat} {q : Int} {E : List Ent} {F : Nat → Prop} {dk dk' : DkS} {st st' : ShS} (hb : Below w0.heap.size w0 w) (hF : ∀ k, F k → w0.heap.size ≤ k) (hR : ∀ k ∈ R, k < w.heap.size ∧ ¬ F k) (hp : SDPost w d s dk' st' F w') (hT : TreeI dk' st' q E) (hto : To dk st dk' st') (hn : dk.S.length = n) (hh : st.h = fmtH) : TrR w0 R w' d s n q E ∧ KeptL R w w' := by
 obtain ⟨F', h1, h2, h3⟩ := hp;refine ⟨⟨hb.trans (h2.below hF hb.size), F', ⟨dk', st', h1, hto.g, hT, hto.len.trans hn, hto.h.trans hh⟩, fun k hk => (h3 k hk).elim (hF k) (fun hx => Nat.le_trans hb.size hx), fun k hk => ⟨Nat.lt_of_lt_of_le (hR k hk).1 h2.size, fun hx => ?_⟩⟩, fun k hk => h2.block k (hR k hk).1 (hR k hk).2⟩
 rcases h3 k hx with h4 | h4
 ·exact (hR k hk).2 h4
 ·have := (hR k hk).1; omega
theorem room_R {dk : DkS} {st : ShS} {root : Int} {E : List Ent} (ht : TreeI dk st root E) (G : Good dk st) (hh : st.h = fmtH) (H0 : Nat) (hn : 2 * E.length + 2 * H0 + 5 ≤ dk.S.length) : Room dk st (2 * H0 + 3) := by
 have hu : usedN st dk.S.length = 0 := used_none st hh _ _;exact ht.room G _ (by omega)
theorem put_R {w0 : World} {R : List Nat} {w : World} {d s n : Nat} {root : Int} {E : List Ent} (h : TrR w0 R w d s n root E) (H0 : Nat) (h9 : H0 ≤ 8) (hE : E.length < 2 ^ (H0 + 1)) (hn : 2 * E.length + 2 * H0 + 5 ≤ n) (key : Int) (hk : 0 ≤ key ∧ key ≤ 18446744073709551615) (val : ByteArray) (hv : val.size ≤ 40) :
  Calls Tryz.prog 16 #[.pointer (some ⟨s, 0, none⟩), .int .i64 root, .int .u64 key, .string val] w fun e w' => ∃ q, e = .returned (.tuple #[.int .i64 q, .int .i64 0]) ∧ TrR w0 R w' d s n q (insE key val E) ∧ KeptL R w w' := by
 obtain ⟨hb, F, ⟨dk, st, h1, G, ht, hl, hh⟩, hF, hR⟩ := h;refine (tput_gen w d s dk st F h1 G root E ht H0 h9 hE (room_R ht G hh H0 (by omega)) key hk val hv).mono ?_;rintro e w' ⟨q, dk', st', rfl, hp, hT, hto⟩;exact ⟨q, rfl, TrR.post hb hF hR hp hT hto hl hh⟩
theorem get_R {w0 : World} {R : List Nat} {w : World} {d s n : Nat} {root : Int} {E : List Ent} (h : TrR w0 R w d s n root E) (hE : E.length ≤ 600) (key : Int) (hk : 0 ≤ key ∧ key ≤ 18446744073709551615) :
  Calls Tryz.prog 22 #[.pointer (some ⟨s, 0, none⟩), .int .i64 root, .int .u64 key] w fun e w' => e = .returned (.tuple #[.string (getV key E), .bool (getB key E), .int .i64 0]) ∧ Below w.heap.size w w' := by
 obtain ⟨hb, F, ⟨dk, st, h1, G, ht, hl, hh⟩, hF, hR⟩ := h;exact tget_is w d s dk st F h1 G root E ht.reads hE key hk
theorem TrR.fits {w0 : World} {R : List Nat} {w : World} {d s n : Nat} {root : Int} {E : List Ent} (h : TrR w0 R w d s n root E) : 0 ≤ root ∧ root < 640 := by
 obtain ⟨hb, F, ⟨dk, st, h1, G, ht, hl, hh⟩, hF, hR⟩ := h
 rcases ht with ⟨h1, _⟩ | ⟨hh, F, P, ⟨M, PM, m1, _⟩, _⟩
 ·omega
 ·have := Rn_read m1
  have := G.few;omega
end Go.Proofs.YtmomlhiokggfbaaGreatDoor
namespace Go.Proofs.YtmomlhiokggfbaaGreatDoor
set_option maxRecDepth 20000
set_option maxHeartbeats 12800000
set_option linter.unusedVariables false
set_option linter.unusedSimpArgs false

end Go.Proofs.YtmomlhiokggfbaaGreatDoor
namespace Go.Proofs.YtmomlhiokggfbaaGreatDoor
open Go Go.RowKit
set_option maxRecDepth 20000
set_option maxHeartbeats 12800000
set_option linter.unusedVariables false
set_option linter.unusedSimpArgs false


end Go.Proofs.YtmomlhiokggfbaaGreatDoor
namespace Go.Proofs.YtmomlhiokggfbaaGreatDoor
open Go.RowKit
set_option maxRecDepth 20000
set_option maxHeartbeats 12800000
set_option linter.unusedVariables false
set_option linter.unusedSimpArgs false
attribute [local go_sem] Oper.semAt_some
theorem box1 {w : World} {b : Nat} {v : Value} {T : TypeId} (h : w.heap[b]? = some (.cells #[v] T)) : w.cell? ⟨b, 0, none⟩ = some v ∧ w.frozen? ⟨b, 0, none⟩ = false := ⟨cells1 h, ufb h 0⟩
def VP (d s g : Nat) (dk : DkS) (st : ShS) (r : Nat) (F : Nat → Prop) (n : Nat) (W : World) : Prop := ∃ r', r ≤ r' ∧ r' ≤ r + n ∧ TS W d s g dk st r' F
def txC (s : Nat) (root e : Int) (o : Bool) : Obj := .cells #[.pointer (some ⟨s, 0, none⟩), .int .i64 root, .int .i64 e, .bool o] 123
theorem cellsT {w : World} {t s : Nat} {root e : Int} {o : Bool} (h : w.heap[t]? = some (txC s root e o)) : w.cell? ⟨t, 0, none⟩ = some (.pointer (some ⟨s, 0, none⟩)) ∧ w.cell? ⟨t, 1, none⟩ = some (.int .i64 root) ∧ w.cell? ⟨t, 2, none⟩ = some (.int .i64 e) ∧ w.cell? ⟨t, 3, none⟩ = some (.bool o) ∧ ∀ i, w.frozen? ⟨t, i, none⟩ = false := by
 unfold txC at h;refine ⟨?_, ?_, ?_, ?_, fun i => ufb h i⟩ <;> (rw [Go.Joins.cell_of_block h]; rfl)
theorem set_frmT {w : World} {b i : Nat} (v : Value) : Frm (fun k => k = b) w (w.setCell ⟨b, i, none⟩ v) := (Frm.refl _ w).setCell _ _ (.inl rfl)
theorem do_put (w : World) (t s : Nat) (root : Int) (caps : Array Value) (hc : w.heap[t]? = some (txC s root 0 false)) (R : Int → World → Prop)
  (HC : Calls Tryz.prog 63 caps w fun e w' => ∃ c, e = .returned (.int .i64 c) ∧ R c w' ∧ ∃ root', w'.heap[t]? = some (txC s root' 0 false)) :
  Calls Tryz.prog 62 #[.pointer (some ⟨t, 0, none⟩), .func (.func 63) #[] caps] w fun e w' => ∃ c w1, e = .returned (.bool (c == 0)) ∧ R c w1 ∧ w1.setCell ⟨t, 2, none⟩ (.int .i64 c) = w' := by
 have H := Hd HC;obtain ⟨c0, c1, c2, c3, fz⟩ := cellsT hc;clear hc HC fz;go_enter Tryz.func62, Tryz.ntmps62;go_wp2_with fail;refine H.out.mono ?_;rintro e w1 ⟨c, rfl, hR, root', hc1⟩;have FIN := Hd hR;obtain ⟨d0, d1, d2, d3, g⟩ := cellsT hc1;have g2 := g 2;obtain ⟨w2, hw2⟩ : ∃ w2, w1.setCell ⟨t, 2, none⟩ (.int .i64 c) = w2 := ⟨_, rfl⟩
 have e2 : w2.cell? ⟨t, 2, none⟩ = some (.int .i64 c) := by
  unfold txC at hc1;have h9 := heap_setCell_same w1 t 2 _ _ (.int .i64 c) hc1;rw [hw2] at h9;rw [Go.Joins.cell_of_block h9]; rfl
 have HW := Hd hw2;clear hR hc1 g c0 c1 c2 c3 H;go_upto_region 4 with fail
 try rw [hw2]
 clear hw2 d0 d1 d2 d3 g2;go_wp2_with fail;go_ret;exact ⟨c, w1, rfl, FIN.out, HW.out⟩
theorem do_get (w : World) (t s : Nat) (root : Int) (caps : Array Value) (hc : w.heap[t]? = some (txC s root 0 false)) (R : Int → World → Prop)
  (HC : Calls Tryz.prog 68 caps w fun e w' => ∃ c, e = .returned (.int .i64 c) ∧ R c w' ∧ ∃ root', w'.heap[t]? = some (txC s root' 0 false)) :
  Calls Tryz.prog 62 #[.pointer (some ⟨t, 0, none⟩), .func (.func 68) #[] caps] w fun e w' => ∃ c w1, e = .returned (.bool (c == 0)) ∧ R c w1 ∧ w1.setCell ⟨t, 2, none⟩ (.int .i64 c) = w' := by
 have H := Hd HC;obtain ⟨c0, c1, c2, c3, fz⟩ := cellsT hc;clear hc HC fz;go_enter Tryz.func62, Tryz.ntmps62;go_wp2_with fail;refine H.out.mono ?_;rintro e w1 ⟨c, rfl, hR, root', hc1⟩;have FIN := Hd hR;obtain ⟨d0, d1, d2, d3, g⟩ := cellsT hc1;have g2 := g 2;obtain ⟨w2, hw2⟩ : ∃ w2, w1.setCell ⟨t, 2, none⟩ (.int .i64 c) = w2 := ⟨_, rfl⟩
 have e2 : w2.cell? ⟨t, 2, none⟩ = some (.int .i64 c) := by
  unfold txC at hc1;have h9 := heap_setCell_same w1 t 2 _ _ (.int .i64 c) hc1;rw [hw2] at h9;rw [Go.Joins.cell_of_block h9]; rfl
 have HW := Hd hw2;clear hR hc1 g c0 c1 c2 c3 H;go_upto_region 4 with fail
 try rw [hw2]
 clear hw2 d0 d1 d2 d3 g2;go_wp2_with fail;go_ret;exact ⟨c, w1, rfl, FIN.out, HW.out⟩
def PutS (bt bk bv t s : Nat) (root key : Int) (val : ByteArray) (w : World) : Prop := w.heap[bt]? = some (.cells #[.pointer (some ⟨t, 0, none⟩)] 67) ∧ w.heap[bk]? = some (.cells #[.int .u64 key] 28) ∧ w.heap[bv]? = some (.cells #[.string val] 9) ∧ w.heap[t]? = some (txC s root 0 false)
theorem PutS.kept {bt bk bv t s : Nat} {root key : Int} {val : ByteArray} {w w' : World} {R : List Nat} (h : PutS bt bk bv t s root key val w) (hm : bt ∈ R ∧ bk ∈ R ∧ bv ∈ R ∧ t ∈ R) (hK : KeptL R w w') : PutS bt bk bv t s root key val w' :=
 ⟨(hK _ hm.1).trans h.1, (hK _ hm.2.1).trans h.2.1, (hK _ hm.2.2.1).trans h.2.2.1, (hK _ hm.2.2.2).trans h.2.2.2⟩
theorem put1_is {w0 w : World} {R : List Nat} {t d s n bt bk bv br : Nat} {root key : Int} {val : ByteArray} {E : List Ent} (h : TrR w0 R w d s n root E) (ps : PutS bt bk bv t s root key val w) (hm : bt ∈ R ∧ bk ∈ R ∧ bv ∈ R ∧ t ∈ R) (ht0 : w0.heap.size ≤ t)
  (H0 : Nat) (h9 : H0 ≤ 8) (hE : E.length < 2 ^ (H0 + 1)) (hn : 2 * E.length + 2 * H0 + 5 ≤ n) (hk : 0 ≤ key ∧ key ≤ 18446744073709551615) (hv : val.size ≤ 40) :
  Calls Tryz.prog 63 #[.pointer (some ⟨bt, 0, none⟩), .pointer (some ⟨bk, 0, none⟩), .pointer (some ⟨bv, 0, none⟩), .pointer (some ⟨br, 0, none⟩)] w fun e w' => e = .returned (.int .i64 0) ∧ ∃ q, TrR w0 R w' d s n q (insE key val E) ∧ w'.heap[t]? = some (txC s q 0 false) ∧ ∀ k ∈ R, k ≠ t → w'.heap[k]? = w.heap[k]? := by
 have PS := Hd (show PutS bt bk bv t s root key val w.drew from ps);have PT := Hd (put_R (h.below Br.drew) H0 h9 hE hn key hk val hv);have HM := Hd hm;have HT0 := Hd ht0;clear h ps h9 hE hn hk hv ht0;go_enter Tryz.func63, Tryz.ntmps63;go_upto_region 1 with fail
 refine wp_region_held_drew (S := fun w' => PutS bt bk bv t s root key val w') (by kernel_rfl) PS.out (fun hS => ?_);refine Hv 0 8 ?va0x1 hS ?ha0x1 ?_
 case ha0x1 =>
  intro w9 s9;have k9 := (box1 s9.1).1;clear s9;go_simp;try (with_reducible rfl)
 simp only [SL];refine Hu 1 9 hS ?_;simp only [SL];refine Hu 2 10 hS ?_;simp only [SL];refine Hv 3 11 ?va3x4 hS ?ha3x4 ?_
 case ha3x4 =>
  intro w9 s9;obtain ⟨k0, k1, _, _, _⟩ := cellsT s9.2.2.2;clear s9;go_simp;try (with_reducible rfl)
 simp only [SL];refine Hv 4 12 ?va4x5 hS ?ha4x5 ?_
 case ha4x5 =>
  intro w9 s9;have k9 := (box1 s9.1).1;clear s9;go_simp;try (with_reducible rfl)
 simp only [SL];refine Hu 5 13 hS ?_;simp only [SL];refine Hu 6 14 hS ?_;simp only [SL];refine Hv 7 15 ?va7x8 hS ?ha7x8 ?_
 case ha7x8 =>
  intro w9 s9;obtain ⟨k0, k1, _, _, _⟩ := cellsT s9.2.2.2;clear s9;go_simp;try (with_reducible rfl)
 simp only [SL];refine Hv 8 16 ?va8x9 hS ?ha8x9 ?_
 case ha8x9 =>
  intro w9 s9;have k9 := (box1 s9.2.1).1;clear s9;go_simp;try (with_reducible rfl)
 simp only [SL];refine Hv 9 17 ?va9x10 hS ?ha9x10 ?_
 case ha9x10 =>
  intro w9 s9;have k9 := (box1 s9.2.2.1).1;clear s9;go_simp;try (with_reducible rfl)
 simp only [SL];refine Hs 10 (fun K HK => ?_);go_simp;go_wp2_with fail;refine PT.out.mono ?_;rintro e w6 ⟨q, rfl, hT, hK⟩;refine HK.out _ _ ?_ ?_
 ·exact hS.kept hm hK
 clear HK K;try simp only [Act.put, SL]
 have hS' := hS.kept hm hK;clear hS;have hS := hS';clear hS';refine Hu 11 7 hS ?_;simp only [SL];refine Hu 12 19 hS ?_;simp only [SL];refine Hu 13 20 hS ?_;simp only [SL];refine Hu 14 5 hS ?_;simp only [SL];refine Hu 15 6 hS ?_;simp only [SL];refine wpAnyH_done (by kernel_rfl) ?_ _;have bx := (box1 hS.1).1;obtain ⟨d0, d1, d2, d3, g⟩ := cellsT hS.2.2.2;have g1 := g 1;obtain ⟨w7, hw7⟩ : ∃ w7, w6.setCell ⟨t, 1, none⟩ (.int .i64 q) = w7 := ⟨_, rfl⟩
 have FIN : Hid (∃ q, TrR w0 R w7 d s n q (insE key val E) ∧ w7.heap[t]? = some (txC s q 0 false) ∧ ∀ k ∈ R, k ≠ t → w7.heap[k]? = w.heap[k]?) := Hd (by
  have f : Frm (fun k => k = t) w6 w7 := by rw [← hw7]; exact set_frmT _
  refine ⟨q, hT.turn HM.out.2.2.2 HT0.out f, ?_, fun k hk hne => (f.block k (hT.lt k hk) hne).trans (hK k hk)⟩;have h1 := hS.2.2.2;unfold txC at h1;rw [← hw7, heap_setCell_same _ _ 1 _ _ _ h1]
  rfl)
 clear hS hT hK g hm;go_upto_region 8 with fail
 try rw [hw7]
 clear hw7 bx d0 d1 d2 d3 g1;go_wp2_with fail;go_ret;exact ⟨rfl, FIN.out⟩
theorem put1_long {w0 w : World} {R : List Nat} {t d s n bt bk bv br : Nat} {root key : Int} {val : ByteArray} {E : List Ent} (h : TrR w0 R w d s n root E) (ps : PutS bt bk bv t s root key val w) (hm : bt ∈ R ∧ bk ∈ R ∧ bv ∈ R ∧ t ∈ R) (hbr : w.heap[br]? = some (.cells #[.bool false] 4)) (hrm : br ∈ R) (hr0 : w0.heap.size ≤ br) (hv : 40 < val.size) :
  Calls Tryz.prog 63 #[.pointer (some ⟨bt, 0, none⟩), .pointer (some ⟨bk, 0, none⟩), .pointer (some ⟨bv, 0, none⟩), .pointer (some ⟨br, 0, none⟩)] w fun e w' => e = .returned (.int .i64 0) ∧ TrR w0 R w' d s n root E ∧ w'.heap[br]? = some (.cells #[.bool true] 4) ∧ ∀ k ∈ R, k ≠ br → w'.heap[k]? = w.heap[k]? := by
 have PS := Hd (show PutS bt bk bv t s root key val w.drew from ps);have PT := Hd (tput_long w.drew s root key val hv);have TD := Hd (h.below Br.drew);have HM := Hd hm;have HB := Hd (And.intro hbr (And.intro hrm hr0));clear h ps hv hbr hrm hr0;go_enter Tryz.func63, Tryz.ntmps63;go_upto_region 1 with fail
 refine wp_region_held_drew (S := fun w' => PutS bt bk bv t s root key val w') (by kernel_rfl) PS.out (fun hS => ?_);refine Hv 0 8 ?vb0x1 hS ?hb0x1 ?_
 case hb0x1 =>
  intro w9 s9;have k9 := (box1 s9.1).1;clear s9;go_simp;try (with_reducible rfl)
 simp only [SL];refine Hu 1 9 hS ?_;simp only [SL];refine Hu 2 10 hS ?_;simp only [SL];refine Hv 3 11 ?vb3x4 hS ?hb3x4 ?_
 case hb3x4 =>
  intro w9 s9;obtain ⟨k0, k1, _, _, _⟩ := cellsT s9.2.2.2;clear s9;go_simp;try (with_reducible rfl)
 simp only [SL];refine Hv 4 12 ?vb4x5 hS ?hb4x5 ?_
 case hb4x5 =>
  intro w9 s9;have k9 := (box1 s9.1).1;clear s9;go_simp;try (with_reducible rfl)
 simp only [SL];refine Hu 5 13 hS ?_;simp only [SL];refine Hu 6 14 hS ?_;simp only [SL];refine Hv 7 15 ?vb7x8 hS ?hb7x8 ?_
 case hb7x8 =>
  intro w9 s9;obtain ⟨k0, k1, _, _, _⟩ := cellsT s9.2.2.2;clear s9;go_simp;try (with_reducible rfl)
 simp only [SL];refine Hv 8 16 ?vb8x9 hS ?hb8x9 ?_
 case hb8x9 =>
  intro w9 s9;have k9 := (box1 s9.2.1).1;clear s9;go_simp;try (with_reducible rfl)
 simp only [SL];refine Hv 9 17 ?vb9x10 hS ?hb9x10 ?_
 case hb9x10 =>
  intro w9 s9;have k9 := (box1 s9.2.2.1).1;clear s9;go_simp;try (with_reducible rfl)
 simp only [SL];refine Hs 10 (fun K HK => ?_);go_simp;go_wp2_with fail;refine PT.out.mono ?_;rintro e w6 ⟨rfl, hb⟩;have hK : KeptL R w.drew w6 := TD.out.kept hb;refine HK.out _ _ ?_ ?_
 ·exact hS.kept hm hK
 clear HK K;try simp only [Act.put, SL]
 have hS' := hS.kept hm hK;clear hS;have hS := hS';clear hS';refine Hu 11 7 hS ?_;simp only [SL];refine Hu 12 19 hS ?_;simp only [SL];refine Hu 13 20 hS ?_;simp only [SL];refine Hu 14 5 hS ?_;simp only [SL];refine Hu 15 6 hS ?_;simp only [SL];refine wpAnyH_done (by kernel_rfl) ?_ _;have hr := (hK br HB.out.2.1).trans HB.out.1;obtain ⟨u0, u1⟩ := box1 hr;obtain ⟨w7, hw7⟩ : ∃ w7, w6.setCell ⟨br, 0, none⟩ (.bool true) = w7 := ⟨_, rfl⟩
 have FIN : Hid (TrR w0 R w7 d s n root E ∧ w7.heap[br]? = some (.cells #[.bool true] 4) ∧ ∀ k ∈ R, k ≠ br → w7.heap[k]? = w.heap[k]?) := Hd (by
  have f : Frm (fun k => k = br) w6 w7 := by rw [← hw7]; exact set_frmT _
  have hT := TD.out.below hb;refine ⟨hT.turn HB.out.2.1 HB.out.2.2 f, ?_, fun k hk hne => (f.block k (hT.lt k hk) hne).trans (hK k hk)⟩;rw [← hw7, heap_setCell_same _ _ 0 _ _ _ hr]
  rfl)
 clear hS hK hb hr hm;go_upto_region 7 with fail
 try rw [hw7]
 clear hw7 u0 u1;go_wp2_with fail;go_ret;exact ⟨rfl, FIN.out⟩
theorem boxes4 {w0 w : World} {R : List Nat} {t d s n : Nat} {root key : Int} {val : ByteArray} {E : List Ent} (h : TrR w0 (t :: R) w d s n root E) (ht : w.heap[t]? = some (txC s root 0 false)) (x4 : World)
  (hx : (((w.alloc (.cells #[.pointer (some ⟨t, 0, none⟩)] 67)).alloc (.cells #[.int .u64 key] 28)).alloc (.cells #[.string val] 9)).alloc (.cells #[.bool false] 4) = x4) :
  TrR w0 ((w.heap.size + 3) :: (w.heap.size + 2) :: (w.heap.size + 1) :: w.heap.size :: t :: R) x4 d s n root E ∧ PutS w.heap.size (w.heap.size + 1) (w.heap.size + 2) t s root key val x4 ∧ x4.heap[w.heap.size + 3]? = some (.cells #[.bool false] 4) ∧ KeptL (t :: R) w x4 ∧ t < w.heap.size ∧ (∀ k ∈ t :: R, k < w.heap.size) ∧ Below w.heap.size w x4 := by
 obtain ⟨x1, hx1⟩ : ∃ x1, w.alloc (.cells #[.pointer (some ⟨t, 0, none⟩)] 67) = x1 := ⟨_, rfl⟩
 obtain ⟨x2, hx2⟩ : ∃ x2, x1.alloc (.cells #[.int .u64 key] 28) = x2 := ⟨_, rfl⟩
 obtain ⟨x3, hx3⟩ : ∃ x3, x2.alloc (.cells #[.string val] 9) = x3 := ⟨_, rfl⟩
 rw [hx1, hx2, hx3] at hx;have z1 : x1.heap.size = w.heap.size + 1 := by rw [← hx1]; simp
 have z2 : x2.heap.size = w.heap.size + 2 := by rw [← hx2]; simp [z1]
 have z3 : x3.heap.size = w.heap.size + 3 := by rw [← hx3]; simp [z2]
 have z4 : x4.heap.size = w.heap.size + 4 := by rw [← hx]; simp [z3]
 have b1 : Below w.heap.size w x1 := by rw [← hx1]; exact below_made _ _
 have b2 : Below x1.heap.size x1 x2 := by rw [← hx2]; exact below_made _ _
 have b3 : Below x2.heap.size x2 x3 := by rw [← hx3]; exact below_made _ _
 have b4 : Below x3.heap.size x3 x4 := by rw [← hx]; exact below_made _ _
 have m1 : x1.heap[w.heap.size]? = some (.cells #[.pointer (some ⟨t, 0, none⟩)] 67) := by rw [← hx1]; exact heap_alloc_new w _
 have m2 : x2.heap[w.heap.size + 1]? = some (.cells #[.int .u64 key] 28) := by rw [← hx2, ← z1]; exact heap_alloc_new x1 _
 have m3 : x3.heap[w.heap.size + 2]? = some (.cells #[.string val] 9) := by rw [← hx3, ← z2]; exact heap_alloc_new x2 _
 have m4 : x4.heap[w.heap.size + 3]? = some (.cells #[.bool false] 4) := by rw [← hx, ← z3]; exact heap_alloc_new x3 _
 have hlt := h.lt;have ht' := hlt t (by simp);have bw : Below w.heap.size w x4 := ((b1.trans (b2.mono (by omega))).trans (b3.mono (by omega))).trans (b4.mono (by omega));refine ⟨(((h.more b1 w.heap.size (Nat.le_refl _) (by omega)).more b2 (w.heap.size + 1) (by omega) (by omega)).more b3 (w.heap.size + 2) (by omega) (by omega)).more b4 (w.heap.size + 3) (by omega) (by omega), ⟨?_, ?_, ?_, ?_⟩, m4, fun k hk => bw.block k (hlt k hk), ht', hlt, bw⟩
 ·exact (b4.block _ (by omega)).trans ((b3.block _ (by omega)).trans ((b2.block _ (by omega)).trans m1))
 ·exact (b4.block _ (by omega)).trans ((b3.block _ (by omega)).trans m2)
 ·exact (b4.block _ (by omega)).trans m3
 ·exact (bw.block t ht').trans ht
theorem setT {w1 w2 : World} {t s : Nat} {root : Int} (hc : w1.heap[t]? = some (txC s root 0 false)) (h : w1.setCell ⟨t, 2, none⟩ (.int .i64 0) = w2) : w2.heap[t]? = some (txC s root 0 false) ∧ Frm (fun k => k = t) w1 w2 := by
 have f : Frm (fun k => k = t) w1 w2 := by rw [← h]; exact set_frmT _
 refine ⟨?_, f⟩;unfold txC at hc ⊢;rw [← h, heap_setCell_same _ _ 2 _ _ _ hc]
 rfl
theorem put_T {w0 w : World} {R : List Nat} {t d s n : Nat} {root key : Int} {val : ByteArray} {E : List Ent} (h : TrR w0 (t :: R) w d s n root E) (ht : w.heap[t]? = some (txC s root 0 false)) (ht0 : w0.heap.size ≤ t)
  (H0 : Nat) (h9 : H0 ≤ 8) (hE : E.length < 2 ^ (H0 + 1)) (hn : 2 * E.length + 2 * H0 + 5 ≤ n) (hk : 0 ≤ key ∧ key ≤ 18446744073709551615) (hv : val.size ≤ 40) :
  Calls Tryz.prog 31 #[.pointer (some ⟨t, 0, none⟩), .int .u64 key, .string val] w fun e w' => e = .returned (.bool true) ∧ ∃ q, TrR w0 (t :: R) w' d s n q (insE key val E) ∧ w'.heap[t]? = some (txC s q 0 false) ∧ ∀ k ∈ R, k ≠ t → w'.heap[k]? = w.heap[k]? := by
 obtain ⟨x4, hx4⟩ : ∃ x4, (((w.alloc (.cells #[.pointer (some ⟨t, 0, none⟩)] 67)).alloc (.cells #[.int .u64 key] 28)).alloc (.cells #[.string val] 9)).alloc (.cells #[.bool false] 4) = x4 := ⟨_, rfl⟩
 obtain ⟨hT, hP, hB, hK, htl, hlt, bw⟩ := boxes4 (key := key) (val := val) h ht x4 hx4
 have DO := Hd (do_put x4 t s root #[.pointer (some ⟨w.heap.size, 0, none⟩), .pointer (some ⟨w.heap.size + 1, 0, none⟩), .pointer (some ⟨w.heap.size + 2, 0, none⟩), .pointer (some ⟨w.heap.size + 3, 0, none⟩)] hP.2.2.2
  (fun c w' => c = 0 ∧ ∃ q, TrR w0 ((w.heap.size + 3) :: (w.heap.size + 2) :: (w.heap.size + 1) :: w.heap.size :: t :: R) w' d s n q (insE key val E) ∧ w'.heap[t]? = some (txC s q 0 false) ∧ ∀ k ∈ ((w.heap.size + 3) :: (w.heap.size + 2) :: (w.heap.size + 1) :: w.heap.size :: t :: R), k ≠ t → w'.heap[k]? = x4.heap[k]?)
  ((put1_is hT hP (by simp) ht0 H0 h9 hE hn hk hv).mono fun e w' ⟨h1, q, h2, h3, h4⟩ => ⟨0, h1, ⟨rfl, q, h2, h3, h4⟩, q, h3⟩))
 have HF := Hd (And.intro hB (And.intro hK (And.intro htl (And.intro hlt ht0))));have bx := (box1 hP.1).1;have HX := Hd hx4;clear h ht hT hP hB hK htl hlt h9 hE hn hk hv ht0 bw hx4;go_enter Tryz.func31, Tryz.ntmps31;go_upto_region 2 with fail
 try simp only [Nat.add_assoc, Nat.reduceAdd, World.heap_size_alloc]
 rw [HX.out];go_wp2_with fail;refine DO.out.mono ?_;rintro e w6 ⟨c, w5, rfl, ⟨rfl, q, h1, h2, h3⟩, hw6⟩;obtain ⟨g1, g2⟩ := setT h2 hw6;have hbr : w6.heap[w.heap.size + 3]? = some (.cells #[.bool false] 4) := (g2.block _ (h1.lt _ (by simp)) (by have := HF.out.2.2.1; omega)).trans ((h3 _ (by simp) (by have := HF.out.2.2.1; omega)).trans HF.out.1);have cbr := (box1 hbr).1
 have FIN : Hid (∃ q, TrR w0 (t :: R) w6 d s n q (insE key val E) ∧ w6.heap[t]? = some (txC s q 0 false) ∧ ∀ k ∈ R, k ≠ t → w6.heap[k]? = w.heap[k]?) := Hd (by
  refine ⟨q, (h1.turn (by simp) HF.out.2.2.2.2 g2).sub (fun k hk => by simp only [List.mem_cons] at hk ⊢; rcases hk with hk | hk <;> simp [hk]), g1, fun k hk hne => ?_⟩;have hm : k ∈ ((w.heap.size + 3) :: (w.heap.size + 2) :: (w.heap.size + 1) :: w.heap.size :: t :: R) := by simp [hk]
  exact (g2.block k (h1.lt k hm) hne).trans ((h3 k hm hne).trans (HF.out.2.1 k (by simp [hk]))))
 clear h1 h2 h3 hw6 g1 g2 hbr bx;go_wp2_with fail;go_ret;exact ⟨rfl, FIN.out⟩
theorem putLong_T {w0 w : World} {R : List Nat} {t d s n : Nat} {root key : Int} {val : ByteArray} {E : List Ent} (h : TrR w0 (t :: R) w d s n root E) (ht : w.heap[t]? = some (txC s root 0 false)) (ht0 : w0.heap.size ≤ t) (hv : 40 < val.size) :
  Calls Tryz.prog 31 #[.pointer (some ⟨t, 0, none⟩), .int .u64 key, .string val] w fun e w' => e = .returned (.bool false) ∧ TrR w0 (t :: R) w' d s n root E ∧ w'.heap[t]? = some (txC s root 0 false) ∧ ∀ k ∈ R, k ≠ t → w'.heap[k]? = w.heap[k]? := by
 obtain ⟨x4, hx4⟩ : ∃ x4, (((w.alloc (.cells #[.pointer (some ⟨t, 0, none⟩)] 67)).alloc (.cells #[.int .u64 key] 28)).alloc (.cells #[.string val] 9)).alloc (.cells #[.bool false] 4) = x4 := ⟨_, rfl⟩
 obtain ⟨hT, hP, hB, hK, htl, hlt, bw⟩ := boxes4 (key := key) (val := val) h ht x4 hx4
 have DO := Hd (do_put x4 t s root #[.pointer (some ⟨w.heap.size, 0, none⟩), .pointer (some ⟨w.heap.size + 1, 0, none⟩), .pointer (some ⟨w.heap.size + 2, 0, none⟩), .pointer (some ⟨w.heap.size + 3, 0, none⟩)] hP.2.2.2
  (fun c w' => c = 0 ∧ TrR w0 ((w.heap.size + 3) :: (w.heap.size + 2) :: (w.heap.size + 1) :: w.heap.size :: t :: R) w' d s n root E ∧ w'.heap[w.heap.size + 3]? = some (.cells #[.bool true] 4) ∧ ∀ k ∈ ((w.heap.size + 3) :: (w.heap.size + 2) :: (w.heap.size + 1) :: w.heap.size :: t :: R), k ≠ w.heap.size + 3 → w'.heap[k]? = x4.heap[k]?)
  ((put1_long hT hP (by simp) hB (by simp) (by have := h.size.size; omega) hv).mono fun e w' ⟨h1, h2, h3, h4⟩ => ⟨0, h1, ⟨rfl, h2, h3, h4⟩, root, (h4 t (by simp) (by omega)).trans hP.2.2.2⟩))
 have HF := Hd (And.intro hP.2.2.2 (And.intro hK (And.intro htl (And.intro hlt ht0))));have bx := (box1 hP.1).1;have HX := Hd hx4;clear h ht hT hP hB hK htl hlt hv ht0 bw hx4;go_enter Tryz.func31, Tryz.ntmps31;go_upto_region 2 with fail
 try simp only [Nat.add_assoc, Nat.reduceAdd, World.heap_size_alloc]
 rw [HX.out];go_wp2_with fail;refine DO.out.mono ?_;rintro e w6 ⟨c, w5, rfl, ⟨rfl, h1, h2, h3⟩, hw6⟩;have htl := HF.out.2.2.1;obtain ⟨g1, g2⟩ := setT ((h3 t (by simp) (by omega)).trans HF.out.1) hw6;have hbr : w6.heap[w.heap.size + 3]? = some (.cells #[.bool true] 4) := (g2.block _ (h1.lt _ (by simp)) (by omega)).trans h2;have cbr := (box1 hbr).1
 have FIN : Hid (TrR w0 (t :: R) w6 d s n root E ∧ w6.heap[t]? = some (txC s root 0 false) ∧ ∀ k ∈ R, k ≠ t → w6.heap[k]? = w.heap[k]?) := Hd (by
  refine ⟨(h1.turn (by simp) HF.out.2.2.2.2 g2).sub (fun k hk => by simp only [List.mem_cons] at hk ⊢; rcases hk with hk | hk <;> simp [hk]), g1, fun k hk hne => ?_⟩;have hm : k ∈ ((w.heap.size + 3) :: (w.heap.size + 2) :: (w.heap.size + 1) :: w.heap.size :: t :: R) := by simp [hk]
  have hkl := HF.out.2.2.2.1 k (by simp [hk]);exact (g2.block k (h1.lt k hm) hne).trans ((h3 k hm (by omega)).trans (HF.out.2.1 k (by simp [hk]))))
 clear h1 h2 h3 hw6 g1 g2 hbr bx htl;go_wp2_with fail;go_ret;exact ⟨rfl, FIN.out⟩
theorem err_T {w : World} {t s : Nat} {root e : Int} {o : Bool} (ht : w.heap[t]? = some (txC s root e o)) :
  Calls Tryz.prog 36 #[.pointer (some ⟨t, 0, none⟩)] w fun e' w' => e' = .returned (.int .i64 e) ∧ w = w' := by
 obtain ⟨c0, c1, c2, c3, _⟩ := cellsT ht;go_enter Tryz.func36, Tryz.ntmps36;go_wp2_with fail;go_ret;exact ⟨rfl, rfl⟩
theorem over_T {w : World} {t s : Nat} {root e : Int} {o : Bool} (ht : w.heap[t]? = some (txC s root e o)) :
  Calls Tryz.prog 40 #[.pointer (some ⟨t, 0, none⟩)] w fun e' w' => e' = .returned (.bool o) ∧ w = w' := by
 obtain ⟨c0, c1, c2, c3, _⟩ := cellsT ht;go_enter Tryz.func40, Tryz.ntmps40;go_wp2_with fail;go_ret;exact ⟨rfl, rfl⟩
def GetS (bt bk t s : Nat) (root key : Int) (w : World) : Prop := w.heap[bt]? = some (.cells #[.pointer (some ⟨t, 0, none⟩)] 67) ∧ w.heap[bk]? = some (.cells #[.int .u64 key] 28) ∧ w.heap[t]? = some (txC s root 0 false)
theorem GetS.kept {bt bk t s : Nat} {root key : Int} {w w' : World} {R : List Nat} (h : GetS bt bk t s root key w) (hm : bt ∈ R ∧ bk ∈ R ∧ t ∈ R) (hK : KeptL R w w') : GetS bt bk t s root key w' :=
 ⟨(hK _ hm.1).trans h.1, (hK _ hm.2.1).trans h.2.1, (hK _ hm.2.2).trans h.2.2⟩
theorem GetS.set {bt bk t s b i : Nat} {root key : Int} {v : Value} {w : World} (h : GetS bt bk t s root key w) (hn : bt ≠ b ∧ bk ≠ b ∧ t ≠ b) : GetS bt bk t s root key (w.setCell ⟨b, i, none⟩ v) :=
 ⟨(Below.heap_setCell _ _ _ _ hn.1).trans h.1, (Below.heap_setCell _ _ _ _ hn.2.1).trans h.2.1, (Below.heap_setCell _ _ _ _ hn.2.2).trans h.2.2⟩
theorem get1_is {w0 w : World} {R : List Nat} {t d s n bt bk bw bi : Nat} {root key : Int} {E : List Ent} (h : TrR w0 R w d s n root E) (ps : GetS bt bk t s root key w) (hm : bt ∈ R ∧ bk ∈ R ∧ t ∈ R) (hw : bw ∈ R ∧ bi ∈ R) (hl : w0.heap.size ≤ bw ∧ w0.heap.size ≤ bi) (hn : (bt ≠ bw ∧ bk ≠ bw ∧ t ≠ bw) ∧ (bt ≠ bi ∧ bk ≠ bi ∧ t ≠ bi) ∧ bw ≠ bi)
  (hv : w.heap[bw]? = some (.cells #[.string ⟨#[]⟩] 9) ∧ w.heap[bi]? = some (.cells #[.bool false] 4)) (hE : E.length ≤ 600) (hk : 0 ≤ key ∧ key ≤ 18446744073709551615) (gv : ByteArray) (gb : Bool) (hgv : getV key E = gv) (hgb : getB key E = gb) :
  Calls Tryz.prog 68 #[.pointer (some ⟨bt, 0, none⟩), .pointer (some ⟨bk, 0, none⟩), .pointer (some ⟨bw, 0, none⟩), .pointer (some ⟨bi, 0, none⟩)] w fun e w' => e = .returned (.int .i64 0) ∧ TrR w0 R w' d s n root E ∧ w'.heap[bw]? = some (.cells #[.string gv] 9) ∧ w'.heap[bi]? = some (.cells #[.bool gb] 4) ∧ ∀ k ∈ R, k ≠ bw → k ≠ bi → w'.heap[k]? = w.heap[k]? := by
 have PS := Hd (show GetS bt bk t s root key w.drew from ps);have TD := Hd (h.below Br.drew);have PT0 := get_R (h.below Br.drew) hE key hk;rw [hgv, hgb] at PT0;have PT := Hd PT0;have HN := Hd hn;have HL := Hd hl;have HV := Hd hv;clear h ps hE hk hn hl hv hgv hgb PT0;go_enter Tryz.func68, Tryz.ntmps68;go_upto_region 1 with fail
 refine wp_region_held_drew (S := fun w' => GetS bt bk t s root key w') (by kernel_rfl) PS.out (fun hS => ?_);refine Hv 0 6 ?va0x1 hS ?ha0x1 ?_
 case ha0x1 =>
  intro w9 s9;have k9 := (box1 s9.1).1;clear s9;go_simp;try (with_reducible rfl)
 simp only [SL];refine Hu 1 7 hS ?_;simp only [SL];refine Hu 2 8 hS ?_;simp only [SL];refine Hv 3 9 ?va3x4 hS ?ha3x4 ?_
 case ha3x4 =>
  intro w9 s9;obtain ⟨k0, k1, _, _, _⟩ := cellsT s9.2.2;clear s9;go_simp;try (with_reducible rfl)
 simp only [SL];refine Hv 4 10 ?va4x5 hS ?ha4x5 ?_
 case ha4x5 =>
  intro w9 s9;have k9 := (box1 s9.1).1;clear s9;go_simp;try (with_reducible rfl)
 simp only [SL];refine Hu 5 11 hS ?_;simp only [SL];refine Hu 6 12 hS ?_;simp only [SL];refine Hv 7 13 ?va7x8 hS ?ha7x8 ?_
 case ha7x8 =>
  intro w9 s9;obtain ⟨k0, k1, _, _, _⟩ := cellsT s9.2.2;clear s9;go_simp;try (with_reducible rfl)
 simp only [SL];refine Hv 8 14 ?va8x9 hS ?ha8x9 ?_
 case ha8x9 =>
  intro w9 s9;have k9 := (box1 s9.2.1).1;clear s9;go_simp;try (with_reducible rfl)
 simp only [SL];refine Hs 9 (fun K HK => ?_);go_simp;go_wp2_with fail;refine PT.out.mono ?_;rintro e w6 ⟨rfl, hb⟩;have hK : KeptL R w.drew w6 := TD.out.kept hb;have TD2 := Hd (TD.out.below hb);clear hb;refine HK.out _ _ ?_ ?_
 ·exact hS.kept hm hK
 clear HK K;try simp only [Act.put, SL]
 have hS' := hS.kept hm hK;clear hS;have hS := hS';clear hS';have V0 := (hK bw hw.1).trans HV.out.1;have I0 := (hK bi hw.2).trans HV.out.2;obtain ⟨u0, u1⟩ := box1 V0;refine Hu 10 5 hS ?_;simp only [SL];refine Hu 11 16 hS ?_;simp only [SL];refine Hu 12 17 hS ?_;simp only [SL];refine Hu 13 18 hS ?_;simp only [SL];refine Hs 14 (fun K HK => ?_);go_simp;go_wp2_with fail;refine HK.out _ _ ?_ ?_
 ·exact hS.set HN.out.1
 clear HK K;try simp only [Act.put, SL]
 have hS' := hS.set (i := 0) (v := .string gv) HN.out.1;clear hS;have hS := hS';clear hS';obtain ⟨w7, hw7⟩ : ∃ w7, w6.setCell ⟨bw, 0, none⟩ (.string gv) = w7 := ⟨_, rfl⟩
 rw [hw7] at hS;rw [hw7];have f7 : Frm (fun k => k = bw) w6 w7 := by rw [← hw7]; exact set_frmT _
 have V1 : w7.heap[bw]? = some (.cells #[.string gv] 9) := by rw [← hw7, heap_setCell_same _ _ 0 _ _ _ V0]; rfl
 have I1 := (f7.block bi (TD2.out.lt bi hw.2) (Ne.symm HN.out.2.2)).trans I0;have F7 := Hd f7;have V1' := Hd V1;have HK7 := Hd hK;clear u0 u1 V0 I0 hw7 f7 V1 hK;obtain ⟨u0, u1⟩ := box1 I1;refine Hs 15 (fun K HK => ?_);go_simp;go_wp2_with fail;refine HK.out _ _ ?_ ?_
 ·exact hS.set HN.out.2.1
 clear HK K;try simp only [Act.put, SL]
 have hS' := hS.set (i := 0) (v := .bool gb) HN.out.2.1;clear hS;have hS := hS';clear hS';obtain ⟨w8, hw8⟩ : ∃ w8, w7.setCell ⟨bi, 0, none⟩ (.bool gb) = w8 := ⟨_, rfl⟩
 rw [hw8] at hS;rw [hw8]
 have FIN : Hid (TrR w0 R w8 d s n root E ∧ w8.heap[bw]? = some (.cells #[.string gv] 9) ∧ w8.heap[bi]? = some (.cells #[.bool gb] 4) ∧ ∀ k ∈ R, k ≠ bw → k ≠ bi → w8.heap[k]? = w.heap[k]?) := Hd (by
  have f8 : Frm (fun k => k = bi) w7 w8 := by rw [← hw8]; exact set_frmT _
  have h7 := TD2.out.turn hw.1 HL.out.1 F7.out;refine ⟨h7.turn hw.2 HL.out.2 f8, (f8.block bw (h7.lt bw hw.1) HN.out.2.2).trans V1'.out, ?_, fun k hk h1 h2 => (f8.block k (h7.lt k hk) h2).trans ((F7.out.block k (TD2.out.lt k hk) h1).trans (HK7.out k hk))⟩;rw [← hw8, heap_setCell_same _ _ 0 _ _ _ I1]
  rfl)
 clear u0 u1 I1 hw8;refine Hu 16 4 hS ?_;simp only [SL];refine wpAnyH_done (by kernel_rfl) ?_ _;clear hS;go_wp2_with fail;go_ret;exact ⟨rfl, FIN.out⟩
theorem boxesG {w0 w : World} {R : List Nat} {t d s n : Nat} {root : Int} {E : List Ent} (h : TrR w0 (t :: R) w d s n root E) (o1 o2 o3 o4 : Obj) (x4 : World) (hx : (((w.alloc o1).alloc o2).alloc o3).alloc o4 = x4) :
  TrR w0 ((w.heap.size + 3) :: (w.heap.size + 2) :: (w.heap.size + 1) :: w.heap.size :: t :: R) x4 d s n root E ∧ x4.heap[w.heap.size]? = some o1 ∧ x4.heap[w.heap.size + 1]? = some o2 ∧ x4.heap[w.heap.size + 2]? = some o3 ∧ x4.heap[w.heap.size + 3]? = some o4 ∧ t < w.heap.size ∧ (∀ k ∈ t :: R, k < w.heap.size) ∧ Below w.heap.size w x4 := by
 obtain ⟨x1, hx1⟩ : ∃ x1, w.alloc o1 = x1 := ⟨_, rfl⟩
 obtain ⟨x2, hx2⟩ : ∃ x2, x1.alloc o2 = x2 := ⟨_, rfl⟩
 obtain ⟨x3, hx3⟩ : ∃ x3, x2.alloc o3 = x3 := ⟨_, rfl⟩
 rw [hx1, hx2, hx3] at hx;have z1 : x1.heap.size = w.heap.size + 1 := by rw [← hx1]; simp
 have z2 : x2.heap.size = w.heap.size + 2 := by rw [← hx2]; simp [z1]
 have z3 : x3.heap.size = w.heap.size + 3 := by rw [← hx3]; simp [z2]
 have z4 : x4.heap.size = w.heap.size + 4 := by rw [← hx]; simp [z3]
 have b1 : Below w.heap.size w x1 := by rw [← hx1]; exact below_made _ _
 have b2 : Below x1.heap.size x1 x2 := by rw [← hx2]; exact below_made _ _
 have b3 : Below x2.heap.size x2 x3 := by rw [← hx3]; exact below_made _ _
 have b4 : Below x3.heap.size x3 x4 := by rw [← hx]; exact below_made _ _
 have m1 : x1.heap[w.heap.size]? = some o1 := by rw [← hx1]; exact heap_alloc_new w _
 have m2 : x2.heap[w.heap.size + 1]? = some o2 := by rw [← hx2, ← z1]; exact heap_alloc_new x1 _
 have m3 : x3.heap[w.heap.size + 2]? = some o3 := by rw [← hx3, ← z2]; exact heap_alloc_new x2 _
 have m4 : x4.heap[w.heap.size + 3]? = some o4 := by rw [← hx, ← z3]; exact heap_alloc_new x3 _
 have hlt := h.lt;have bw : Below w.heap.size w x4 := ((b1.trans (b2.mono (by omega))).trans (b3.mono (by omega))).trans (b4.mono (by omega))
 exact ⟨(((h.more b1 w.heap.size (Nat.le_refl _) (by omega)).more b2 (w.heap.size + 1) (by omega) (by omega)).more b3 (w.heap.size + 2) (by omega) (by omega)).more b4 (w.heap.size + 3) (by omega) (by omega),
  (b4.block _ (by omega)).trans ((b3.block _ (by omega)).trans ((b2.block _ (by omega)).trans m1)), (b4.block _ (by omega)).trans ((b3.block _ (by omega)).trans m2), (b4.block _ (by omega)).trans m3, m4, hlt t (by simp), hlt, bw⟩
theorem get_T {w0 w : World} {R : List Nat} {t d s n : Nat} {root key : Int} {E : List Ent} (h : TrR w0 (t :: R) w d s n root E) (ht : w.heap[t]? = some (txC s root 0 false)) (ht0 : w0.heap.size ≤ t) (hE : E.length ≤ 600) (hk : 0 ≤ key ∧ key ≤ 18446744073709551615) (gv : ByteArray) (gb : Bool) (hgv : getV key E = gv) (hgb : getB key E = gb) :
  Calls Tryz.prog 37 #[.pointer (some ⟨t, 0, none⟩), .int .u64 key] w fun e w' => e = .returned (.tuple #[.string gv, .bool gb]) ∧ TrR w0 (t :: R) w' d s n root E ∧ w'.heap[t]? = some (txC s root 0 false) ∧ ∀ k ∈ R, k ≠ t → w'.heap[k]? = w.heap[k]? := by
 obtain ⟨x4, hx4⟩ : ∃ x4, (((w.alloc (.cells #[.pointer (some ⟨t, 0, none⟩)] 67)).alloc (.cells #[.int .u64 key] 28)).alloc (.cells #[.string ⟨#[]⟩] 9)).alloc (.cells #[.bool false] 4) = x4 := ⟨_, rfl⟩
 obtain ⟨hT, m1, m2, m3, m4, htl, hlt, bw⟩ := boxesG h _ _ _ _ x4 hx4;have ht4 := (bw.block t htl).trans ht;have hs0 := h.size.size
 have DO := Hd (do_get x4 t s root #[.pointer (some ⟨w.heap.size, 0, none⟩), .pointer (some ⟨w.heap.size + 1, 0, none⟩), .pointer (some ⟨w.heap.size + 2, 0, none⟩), .pointer (some ⟨w.heap.size + 3, 0, none⟩)] ht4
  (fun c w' => c = 0 ∧ TrR w0 ((w.heap.size + 3) :: (w.heap.size + 2) :: (w.heap.size + 1) :: w.heap.size :: t :: R) w' d s n root E ∧ w'.heap[w.heap.size + 2]? = some (.cells #[.string gv] 9) ∧ w'.heap[w.heap.size + 3]? = some (.cells #[.bool gb] 4) ∧ ∀ k ∈ ((w.heap.size + 3) :: (w.heap.size + 2) :: (w.heap.size + 1) :: w.heap.size :: t :: R), k ≠ w.heap.size + 2 → k ≠ w.heap.size + 3 → w'.heap[k]? = x4.heap[k]?)
  ((get1_is hT ⟨m1, m2, ht4⟩ (by simp) (by simp) ⟨by omega, by omega⟩ ⟨⟨by omega, by omega, by omega⟩, ⟨by omega, by omega, by omega⟩, by omega⟩ ⟨m3, m4⟩ hE hk gv gb hgv hgb).mono fun e w' ⟨h1, h2, h3, h4, h5⟩ => ⟨0, h1, ⟨rfl, h2, h3, h4, h5⟩, root, (h5 t (by simp) (by omega) (by omega)).trans ht4⟩))
 have HF := Hd (And.intro ht4 (And.intro bw (And.intro htl (And.intro hlt ht0))));have bx := (box1 m1).1;have HX := Hd hx4;clear h ht hT m1 m2 m3 m4 htl hlt ht0 bw hx4 hE hk hgv hgb ht4 hs0;go_enter Tryz.func37, Tryz.ntmps37;go_upto_region 3 with fail
 try simp only [Nat.add_assoc, Nat.reduceAdd, World.heap_size_alloc]
 rw [HX.out];go_wp2_with fail;refine DO.out.mono ?_;rintro e w6 ⟨c, w5, rfl, ⟨rfl, h1, h2, h3, h4⟩, hw6⟩;have htl := HF.out.2.2.1;obtain ⟨g1, g2⟩ := setT ((h4 t (by simp) (by omega) (by omega)).trans HF.out.1) hw6;have cv := (box1 ((g2.block _ (h1.lt (w.heap.size + 2) (by simp)) (by omega)).trans h2)).1;have ci := (box1 ((g2.block _ (h1.lt (w.heap.size + 3) (by simp)) (by omega)).trans h3)).1
 have FIN : Hid (TrR w0 (t :: R) w6 d s n root E ∧ w6.heap[t]? = some (txC s root 0 false) ∧ ∀ k ∈ R, k ≠ t → w6.heap[k]? = w.heap[k]?) := Hd (by
  refine ⟨(h1.turn (by simp) HF.out.2.2.2.2 g2).sub (fun k hk => by simp only [List.mem_cons] at hk ⊢; rcases hk with hk | hk <;> simp [hk]), g1, fun k hk hne => ?_⟩;have hm : k ∈ ((w.heap.size + 3) :: (w.heap.size + 2) :: (w.heap.size + 1) :: w.heap.size :: t :: R) := by simp [hk]
  have hkl := HF.out.2.2.2.1 k (by simp [hk]);exact (g2.block k (h1.lt k hm) hne).trans ((h4 k hm (by omega) (by omega)).trans (HF.out.2.1.block k hkl)))
 clear h1 h2 h3 h4 hw6 g1 g2 bx htl;go_wp2_with fail
 go_quiet (fail)
 have F2 : Hid (TrR w0 (t :: R) (w6.drewN nq) d s n root E ∧ (w6.drewN nq).heap[t]? = some (txC s root 0 false) ∧ ∀ k ∈ R, k ≠ t → (w6.drewN nq).heap[k]? = w.heap[k]?) := Hd (by
  have b := Below.refl w6.heap.size w6;exact ⟨FIN.out.1.below ⟨b.os, b.tape, b.output, b.size, b.block⟩, FIN.out.2.1, FIN.out.2.2⟩)
 clear FIN;go_wp2_with fail;go_ret2;exact ⟨rfl, F2.out⟩
theorem commit_R {w0 w : World} {R : List Nat} {d s n : Nat} {root : Int} {E : List Ent} (h : TrR w0 R w d s n root E) :
  Calls Tryz.prog 23 #[.pointer (some ⟨s, 0, none⟩), .int .i64 root] w fun e w' => e = .returned (.int .i64 0) ∧ Below w0.heap.size w0 w' ∧ KeptL R w w' := by
 have hf := h.fits;obtain ⟨hb, F, ⟨dk, st, ⟨FD, FS, h1, he⟩, G, ht, hl, hh⟩, hF, hR⟩ := h
 have hm : mayB st root = true := by
  rcases ht with ⟨rfl, _⟩ | ⟨hh', F0, P0, ⟨M, PM, _, _, _, rfl⟩, _, _, hlv⟩
  ·unfold mayB; rfl
  ·have := (hlv.2 root).1 (by simp)
   unfold mayB
   rcases this with h1 | ⟨h1, h2⟩
   ·rw [decide_eq_true h1]; simp
   ·rw [h1, decide_eq_false h2]; simp
 have hc := (commit_ok st dk root G.su hm (by rw [hh]; decide) (by rw [hh]; decide) (by rw [hh]; exact fmtH_ok.u) G.du (by rw [G.df]; decide) G.least).1;refine (commit_is w d s dk st FD FS h1 root (by omega)).mono ?_;rintro e w' ⟨rfl, FD', g1, g2, g3⟩;rw [hc];have hx : ∀ k, FD k ∨ FS k → F k := fun k hk => (he k).2 hk
 exact ⟨rfl, hb.trans (g2.below (fun k hk => hF k (hx k hk)) hb.size), fun k hk => g2.block k (hR k hk).1 (fun hy => (hR k hk).2 (hx k hy))⟩
theorem commit_T {w0 w : World} {R : List Nat} {t d s n : Nat} {root : Int} {E : List Ent} (h : TrR w0 (t :: R) w d s n root E) (ht : w.heap[t]? = some (txC s root 0 false)) (ht0 : w0.heap.size ≤ t) :
  Calls Tryz.prog 32 #[.pointer (some ⟨t, 0, none⟩)] w fun e w' => e = .returned (.int .i64 0) ∧ Below w0.heap.size w0 w' ∧ w'.heap[t]? = some (txC s root 0 true) := by
 obtain ⟨c0, c1, c2, c3, g⟩ := cellsT ht;have g3 := g 3;obtain ⟨w1, hw1⟩ : ∃ w1, w.setCell ⟨t, 3, none⟩ (.bool true) = w1 := ⟨_, rfl⟩
 have f1 : Frm (fun k => k = t) w w1 := by rw [← hw1]; exact set_frmT _
 have h1 := h.turn (by simp) ht0 f1
 have k1 : w1.heap[t]? = some (txC s root 0 true) := by
  unfold txC at ht ⊢;rw [← hw1, heap_setCell_same _ _ 3 _ _ _ ht]
  rfl
 obtain ⟨d0, d1, d2, d3, _⟩ := cellsT k1;have CM := Hd fun wq (hq : TrR w0 (t :: R) wq d s n root E) => commit_R hq
 have H1 := Hd h1;have K1 := Hd k1;have HW := Hd hw1;clear h ht ht0 g f1 h1 k1 hw1;go_enter Tryz.func32, Tryz.ntmps32;go_upto_region 7 with fail
 rw [HW.out];clear c0 c1 c2 c3 g3 HW;refine wp_region_held_drew (S := fun w' => w'.heap[t]? = some (txC s root 0 true)) (by kernel_rfl) K1.out (fun hS => ?_);refine Hu 0 22 hS ?_;simp only [SL];refine Hu 1 23 hS ?_;simp only [SL];refine Hu 2 24 hS ?_;simp only [SL];refine Hv 3 25 ?vc3x4 hS ?hc3x4 ?_
 case hc3x4 =>
  intro w9 s9;obtain ⟨k0, k1, _, _, _⟩ := cellsT s9;clear s9;go_simp;try (with_reducible rfl)
 simp only [SL];refine Hu 4 26 hS ?_;simp only [SL];refine Hu 5 27 hS ?_;simp only [SL];refine Hu 6 28 hS ?_;simp only [SL];refine Hv 7 29 ?vc7x8 hS ?hc7x8 ?_
 case hc7x8 =>
  intro w9 s9;obtain ⟨k0, k1, _, _, _⟩ := cellsT s9;clear s9;go_simp;try (with_reducible rfl)
 simp only [SL];refine Hs 8 (fun K HK => ?_);go_simp;go_wp2_with fail;refine (CM.out _ (H1.out.below Br.drew)).mono ?_;rintro e w6 ⟨rfl, hb, hK⟩;refine HK.out _ _ ?_ ?_
 ·exact (hK t (by simp)).trans hS
 clear HK K;try simp only [Act.put, SL]
 clear hS;have hS := hK t (by simp);have HS2 := Hd (hS.trans K1.out);clear hS;have hS := HS2.out;refine Hu 9 3 hS ?_;simp only [SL];refine wpAnyH_done (by kernel_rfl) ?_ _;have HB := Hd hb;clear hS hb hK;go_wp2_with fail;go_ret;exact ⟨rfl, HB.out, HS2.out⟩
theorem commitOver_T {w : World} {t s : Nat} {root e : Int} (ht : w.heap[t]? = some (txC s root e true)) :
  Calls Tryz.prog 32 #[.pointer (some ⟨t, 0, none⟩)] w fun e' w' => e' = .returned (.int .i64 6) ∧ w = w' := by
 obtain ⟨c0, c1, c2, c3, _⟩ := cellsT ht;go_enter Tryz.func32, Tryz.ntmps32;go_wp2_with fail;go_ret;exact ⟨rfl, rfl⟩
theorem begin_L {w0 w : World} {d s n : Nat} {dk : DkS} (h : DSL w0 w d s dk (ShS.new fmtH)) (G : Good dk (ShS.new fmtH)) (hT : TreeI dk (ShS.new fmtH) 0 []) (hl : dk.S.length = n) :
  Calls Tryz.prog 30 #[.pointer (some ⟨s, 0, none⟩)] w fun e w' => ∃ t, e = .returned (.pointer (some ⟨t, 0, none⟩)) ∧ TrR w0 [t] w' d s n 0 [] ∧ w'.heap[t]? = some (txC s 0 0 false) ∧ w0.heap.size ≤ t := by
 have RB := Hd (rollback_L h);have RT := Hd fun wq (hq : DSL w0 wq d s dk (ShS.new fmtH)) => root_L hq
 have HG := Hd (And.intro G (And.intro hT hl));clear h G hT hl;go_enter Tryz.func30, Tryz.ntmps30;go_wp2_with fail;refine RB.out.mono ?_;rintro e w1 ⟨rfl, hs⟩;have HS1 : Hid (DSL w0 w1 d s dk (ShS.new fmtH)) := Hd hs;clear hs RB;go_wp2_with fail;refine (RT.out _ HS1.out).mono ?_;rintro e w2 ⟨rfl, rfl⟩;rw [show (ShS.new fmtH).h.root = 0 from rfl]
 have FIN : Hid (TrR w0 [w1.heap.size] (w1.alloc (txC s 0 0 false)) d s n 0 [] ∧ (w1.alloc (txC s 0 0 false)).heap[w1.heap.size]? = some (txC s 0 0 false) ∧ w0.heap.size ≤ w1.heap.size) := Hd (by
  obtain ⟨FD, FS, h1, h2, h3, h4⟩ := HS1.out;have hq : TrR w0 [] w1 d s n 0 [] := ⟨h2, fun k => FD k ∨ FS k, ⟨dk, _, ⟨FD, FS, h1, fun _ => Iff.rfl⟩, HG.out.1, HG.out.2.1, HG.out.2.2, rfl⟩, fun k hk => hk.elim (h3 k) (h4 k), fun k hk => by cases hk⟩
  exact ⟨hq.more (below_made _ _) _ (Nat.le_refl _) (by simp), heap_alloc_new _ _, h2.size⟩)
 unfold txC at FIN;clear HS1 RT HG;go_wp2_with fail;go_ret;exact ⟨_, rfl, FIN.out⟩
theorem made12_is (w : World) (n : Nat) (h8 : 8 ≤ n) (hn : n ≤ 640) :
  Calls Tryz.prog 29 #[.int .i64 (n : Int)] w fun e w' => ∃ d s dk, e = .returned (.tuple #[.pointer (some ⟨d, 0, none⟩), .pointer (some ⟨s, 0, none⟩)]) ∧ DSL w w' d s dk (ShS.new fmtH) ∧ Good dk (ShS.new fmtH) ∧ TreeI dk (ShS.new fmtH) 0 [] ∧ dk.S.length = n := by
 have NY := Hd fun w => new_yes w n h8 hn
 have hln : (DkS.fresh n).S.length = n := by show (List.replicate n zs).length = n; rw [List.length_replicate]
 have FG := Hd (fmt_good (DkS.fresh n) rfl rfl (by rw [hln]; exact h8) (by rw [hln]; exact hn));rw [hln] at FG;clear h8 hn hln;go_enter Tryz.func29, Tryz.ntmps29;go_wp2_with fail;refine (NY.out _).mono ?_;intro e w1 hm;obtain ⟨d, rfl, hd⟩ := made_L Br hm;clear hm NY;have HD := Hd hd;clear hd;have pn := ptr_nilD ⟨d, 0, none⟩;go_wp2_with fail;refine (format_L HD.out FG.out.1).mono ?_;rintro e w3 ⟨s, rfl, hs⟩;have HS3 := Hd hs;clear hs HD;have sn := ptr_nilS ⟨s, 0, none⟩;go_wp2_with fail;go_ret2;exact ⟨d, s, _, rfl, HS3.out, FG.out.2.1, FG.out.2.2.1, FG.out.2.2.2⟩
theorem examples_yes12 (w : World) :
  Calls Tryz.prog 28 #[] w fun e w' => e = .returned (.bool true) ∧ Below w.heap.size w w' := by
 have MD := Hd fun w => made12_is w 20 (by decide) (by decide)
 obtain ⟨V, hV⟩ : ∃ V : ByteArray, (⟨#[102, 105, 118, 101]⟩ : ByteArray) = V := ⟨_, rfl⟩
 have HV := Hd hV;have hvv : (V.toList == [102, 105, 118, 101]) = true := by rw [← hV]; decide +kernel
 go_enter Tryz.func28, Tryz.ntmps28;try simp only [List.append_eq, List.cons_append, List.nil_append]
 go_wp2_with fail;refine (MD.out _).mono ?_;rintro e w1 ⟨d, s, dk, rfl, h1, h2, h3, h4⟩;have BG := Hd (begin_L h1 h2 h3 h4);have pn := ptr_nilD ⟨d, 0, none⟩;have sn := ptr_nilS ⟨s, 0, none⟩;clear h1 h2 h3 h4 MD;go_wp2_with fail;refine BG.out.mono ?_;rintro e w2 ⟨t, rfl, h1, h2, h3⟩;have HL := Hd h3;have PU := Hd (put_T (key := 5) (val := V) h1 h2 h3 0 (by decide) (by simp) (by simp) (by decide) (by rw [← HV.out]; decide));clear h1 h2 h3 BG;go_wp2_with fail;refine PU.out.mono ?_;rintro e w3 ⟨rfl, q, h1, h2, _⟩
 have GE := Hd (get_T (key := 5) h1 h2 HL.out (by simp [insE]) (by decide) V true (by simp [getV, getE, insE]) (by simp [getB, getE, insE]));clear h1 h2 PU;go_wp2_with fail;refine GE.out.mono ?_;rintro e w4 ⟨rfl, h1, h2, _⟩;have CM := Hd (commit_T h1 h2 HL.out);clear h1 h2 GE;go_wp2_with fail;refine CM.out.mono ?_;rintro e w5 ⟨rfl, h1, h2⟩;have HB := Hd h1;have HT := Hd h2;clear h1 h2 CM;go_wp2_with fail;refine (commitOver_T HT.out).mono ?_;rintro e w6 ⟨rfl, rfl⟩;go_wp2_with fail;refine (over_T HT.out).mono ?_;rintro e w6 ⟨rfl, rfl⟩;go_wp2_with fail;go_ret;exact ⟨rfl, HB.out⟩
theorem u16_cell {w : World} {a : Option Addr} {len cap : Nat} {zs : List Int} (hk : IsInts .u16 w a len cap zs) (j : Nat) (hj : j < len) : ∃ (x : Addr) (z : Int), a = some x ∧ zs.getD j 0 = z ∧ (0 ≤ z ∧ z ≤ 65535) ∧ Hid (∀ wr, Below w.heap.size w wr → wr.cell? (x.add j) = some (.int .u16 z)) := by
 rcases hk with ⟨rfl, rfl, rfl, rfl⟩ | ⟨x, rfl, h1, h2, h3, h4, h5⟩
 ·omega
 ·have hjl : j < zs.length := by omega
  refine ⟨x, _, rfl, rfl, ?_, Hd fun wr hb => ?_⟩
  ·have hm : zs.getD j 0 ∈ zs := by
    rw [List.getD_eq_getElem?_getD, List.getElem?_eq_getElem hjl];exact List.getElem_mem hjl
   have hw := h5 _ hm;generalize zs.getD j 0 = z at hw ⊢;simp [Lit.wf] at hw;have e1 : IntKind.u16.min = 0 := by rfl
   have e2 : IntKind.u16.max = 65535 := by rfl
   omega
  ·have hc := h4 j hjl
   have hlt : (x.add j).block < w.heap.size := by
    unfold World.cell? at hc
    cases hq : w.heap[(x.add j).block]? with
    | none => rw [hq] at hc; simp at hc
    | some b => exact (Array.getElem?_eq_some_iff.1 hq).1
   exact (hb.cell hlt).trans hc
theorem txnLong_law (a : Option Addr) (len cap : Nat) (zs : List Int) (a1 : Int) (w : World) (hk : IsInts .u16 w a len cap zs) (v1 : (Lit.int .u8 a1).wf = true) :
  Calls Tryz.prog 12 #[.slice a len cap, .int .u8 a1] w fun e w' => e = .returned (.bool true) ∧ Below w.heap.size w w' := by
 have MD := Hd fun w => made12_is w 100 (by decide) (by decide)
 have hv1 : 0 ≤ a1 ∧ a1 ≤ 255 := by
  simp [Lit.wf] at v1;have h1 : IntKind.u8.min = 0 := by rfl
  have h2 : IntKind.u8.max = 255 := by rfl
  omega
 obtain ⟨q, hq⟩ : ∃ q : Nat, 41 + a1 = (q : Int) := ⟨(41 + a1).toNat, by omega⟩
 have hc1 : IntKind.i64.wrap a1 = a1 := IntWalk.i64_in _ (by omega);have hc2 : IntKind.i64.wrap (41 + a1) = (q : Int) := by rw [hq]; exact IntWalk.i64_in _ (by omega)
 have HQ : Hid (41 ≤ q ∧ q ≤ 300) := Hd (by omega);obtain ⟨Z, hZ⟩ : ∃ Z, Str (List.replicate q (0 : UInt8)) = Z := ⟨_, rfl⟩
 have HZ := Hd hZ;have HZL : Hid (40 < Z.size) := Hd (by rw [← hZ, Str_size, List.length_replicate]; have := HQ.out; omega);obtain ⟨X, hX⟩ : ∃ X : ByteArray, (⟨#[120]⟩ : ByteArray) = X := ⟨_, rfl⟩
 have HXL : Hid (X.size ≤ 40) := Hd (by rw [← hX]; decide);have hxx : (X.toList == [120]) = true := by rw [← hX]; decide +kernel
 have CELLS := Hd (u16_cell hk)
 have hlenL : (len : Int) ≤ 9223372036854775807 := by
  rcases hk with ⟨_, rfl, _, _⟩ | ⟨_, _, h1, h2, _⟩
  ·decide
  ·unfold maxLen at h2; omega
 clear v1 hk hv1 hq hZ;go_enter Tryz.func12, Tryz.ntmps12;try simp only [List.append_eq, List.cons_append, List.nil_append]
 go_wp2_with fail;refine (examples_yes12 _).mono ?_;rintro e w1 ⟨rfl, b1⟩;have B1 := Hd b1;clear b1;go_wp2_with fail;refine (MD.out _).mono ?_;rintro e w2 ⟨d, s, dk, rfl, h1, h2, h3, h4⟩;have BG := Hd (begin_L h1 h2 h3 h4);have sn := ptr_nilS ⟨s, 0, none⟩;clear h1 h2 h3 h4 MD;go_wp2_with fail;refine BG.out.mono ?_;rintro e w3 ⟨t, rfl, h1, h2, h3⟩;have HL := Hd h3;have HI0 := Hd (And.intro h1 h2);clear h1 h2 h3 BG;go_wp2_with fail
 go_loopw [9, 10, 11] (fun i _ _ wr => ∃ (j : Nat) (E : List Ent) (root : Int), j ≤ len ∧ j ≤ 10 ∧ i = .int .i64 (j : Int) ∧ Hid (E.length ≤ j) ∧ Hid (TrR w1 [t] wr d s 100 root E ∧ wr.heap[t]? = some (txC s root 0 false))) (fun i _ _ _ => 11 - (intOf i).toNat)
 case atStart => exact ⟨0, [], 0, Nat.zero_le _, Nat.zero_le _, rfl, Hd (Nat.le_refl _), HI0⟩
 case round =>
  obtain ⟨j, E, root, hj1, hj2, rfl, HLN, HI⟩ := hrel
  by_cases hjl : j < len
  ·have hjli : (j : Int) < (len : Int) := by omega
   by_cases hlt : j < 10
   ·have hli : (j : Int) < 10 := by omega
    obtain ⟨x, z, hax, _, hz, CELL⟩ := CELLS.out j hjl;subst hax;have ez : IntKind.u64.wrap z = z := IntWalk.u64_in _ (by omega);have HZK : Hid (0 ≤ z ∧ z ≤ 18446744073709551615) := Hd (by omega);have HJL : Hid (j + 1 ≤ len ∧ j + 1 ≤ 10) := Hd ⟨by omega, by omega⟩;have e4 : IntKind.i64.wrap ((j : Int) + 1) = ((j + 1 : Nat) : Int) := by rw [show (j : Int) + 1 = ((j + 1 : Nat) : Int) by omega]; exact IntWalk.i64_in _ (by omega)
    have TT := Hd (And.intro (HI.out.1.below Br.drew) (show wr.drew.heap[t]? = _ from HI.out.2));have PU := Hd (put_T (key := z) (val := X) TT.out.1 TT.out.2 HL.out 3 (by decide) (by have := HLN.out; omega) (by have := HLN.out; omega) HZK.out HXL.out);clear hj1 hj2 hjl hlt hz;go_upto_region 11 with fail
    refine wp_region_held_drew (S := fun w' => Below w1.heap.size w1 w') (by kernel_rfl) TT.out.1.size (fun hS => ?_);refine Hu 0 33 hS ?_;simp only [SL];refine Hu 1 34 hS ?_;simp only [SL];refine Hu 2 35 hS ?_;simp only [SL];refine Hu 3 36 hS ?_;simp only [SL];refine Hv 4 37 ?va4x5 hS ?ha4x5 ?_
    case ha4x5 =>
     intro w9 s9;have ca := CELL.out w9 (chain B1.out s9);clear s9;go_simp;try (with_reducible rfl)
    simp only [SL];refine Hu 5 38 hS ?_;simp only [SL];refine Hs 6 (fun K HK => ?_);go_simp;go_wp2_with fail;refine PU.out.mono ?_;rintro e w6 ⟨rfl, q1, h1, h2, h3⟩;refine HK.out _ _ ?_ ?_
    ·exact h1.size
    clear HK K;try simp only [Act.put, SL]
    have hS' := h1.size;clear hS;have hS := hS';clear hS';have T1 := Hd (And.intro h1 h2);clear h1 h2 h3;refine Hu 7 40 hS ?_;simp only [SL];refine Hu 8 41 hS ?_;simp only [SL];refine Hu 9 42 hS ?_;simp only [SL];refine Hu 10 43 hS ?_;simp only [SL];refine Hu 11 44 hS ?_;simp only [SL];refine Hu 12 45 hS ?_;simp only [SL];refine Hv 13 46 ?va13x13 hS ?ha13x13 ?_
    case ha13x13 =>
     intro w9 s9;have ca := CELL.out w9 (chain B1.out s9);clear s9;go_simp;try (with_reducible rfl)
    simp only [SL];refine Hu 14 47 hS ?_;simp only [SL];refine Hu 15 48 hS ?_;simp only [SL];refine Hu 16 49 hS ?_;simp only [SL];refine Hu 17 50 hS ?_;simp only [SL];refine Hs 18 (fun K HK => ?_);go_simp;obtain ⟨w7, hmk, hrow, b7⟩ := made_bytes w6 q q (Nat.le_refl _) (by have := HQ.out; omega);have hmk' : (Instr.makeSlice 62 (.int .i64 (q : Int)) (.int .i64 (q : Int))).run Tryz.prog w6 = .ok (.slice (some ⟨w6.heap.size, 0, none⟩) q q) w7 := hmk;clear hmk;go_simp;refine HK.out _ _ ?_ ?_
    ·exact chain hS b7
    clear HK K;try simp only [Act.put, SL]
    clear hmk';have hS' := chain hS b7;clear hS;have hS := hS';clear hS';have ROW := Hd hrow;have T2 := Hd (And.intro (T1.out.1.below b7) ((b7.block t (T1.out.1.lt t (by simp))).trans T1.out.2));clear hrow b7 T1;refine Hs 19 (fun K HK => ?_);go_simp;have hcv := ROW.out.conv q q (by rw [List.length_replicate]; exact Nat.le_refl _);rw [List.take_of_length_le (by rw [List.length_replicate]; exact Nat.le_refl _), HZ.out] at hcv;have hcv' : (convert 62 9 (.slice (some ⟨w6.heap.size, 0, none⟩) q q)).run Tryz.prog w7 = .ok (.string Z) w7 := hcv;clear hcv;go_simp;refine HK.out _ _ ?_ ?_
    ·exact hS
    clear HK K;try simp only [Act.put, SL]
    clear hcv' ROW;refine Hs 20 (fun K HK => ?_);go_simp;go_wp2_with fail;refine (putLong_T T2.out.1 T2.out.2 HL.out HZL.out).mono ?_;rintro e w8 ⟨rfl, h1, h2, h3⟩;refine HK.out _ _ ?_ ?_
    ·exact h1.size
    clear HK K;try simp only [Act.put, SL]
    have hS' := h1.size;clear hS;have hS := hS';clear hS';have T3 := Hd (And.intro h1 h2);clear h1 h2 h3 T2;refine Hu 21 54 hS ?_;simp only [SL];refine Hu 22 55 hS ?_;simp only [SL];refine Hu 23 56 hS ?_;simp only [SL];refine Hs 24 (fun K HK => ?_);go_simp;go_wp2_with fail;refine (err_T T3.out.2).mono ?_;rintro e w9 ⟨rfl, rfl⟩;refine HK.out _ _ ?_ ?_
    ·exact hS
    clear HK K;try simp only [Act.put, SL]
    refine Hu 25 58 hS ?_;simp only [SL];refine Hu 26 59 hS ?_;simp only [SL];refine wpAnyH_done (by kernel_rfl) ?_ _;have GE := Hd (get_T (key := z) T3.out.1 T3.out.2 HL.out (by have := insE_len z X E; have := HLN.out; have := HJL.out; omega) HZK.out X true (by unfold getV; rw [getE_ins, if_pos rfl]) (by unfold getB; rw [getE_ins, if_pos rfl]; rfl));have LEN : Hid ((insE z X E).length ≤ j + 1) := Hd (by have := insE_len z X E; have := HLN.out; omega);have ca := CELL.out w8 (chain B1.out hS);clear hS T3;go_wp2_with fail;refine GE.out.mono ?_;rintro e wa ⟨rfl, h1, h2, _⟩
    have FIN := Hd (And.intro h1 h2);clear h1 h2 GE ca;go_wp2_with fail;go_roundw
    case rel => exact ⟨j + 1, _, _, HJL.out.1, HJL.out.2, rfl, LEN, FIN⟩
    case measure => have := HJL.out; simp [intOf]; omega
   ·have hli : ¬ (j : Int) < 10 := by omega
    clear hlt hjl;have CM := Hd (commit_T HI.out.1 HI.out.2 HL.out);clear HI HLN;go_wp2_with fail;refine CM.out.mono ?_;rintro e w9 ⟨rfl, hb, _⟩;have HB := Hd hb;clear hb CM;go_wp2_with fail;go_ret;exact ⟨rfl, chain B1.out HB.out⟩
  ·have hjli : ¬ (j : Int) < (len : Int) := by omega
   clear hjl;have CM := Hd (commit_T HI.out.1 HI.out.2 HL.out);clear HI HLN;go_wp2_with fail;refine CM.out.mono ?_;rintro e w9 ⟨rfl, hb, _⟩;have HB := Hd hb;clear hb CM;go_wp2_with fail;go_ret;exact ⟨rfl, chain B1.out HB.out⟩
end Go.Proofs.YtmomlhiokggfbaaGreatDoor
