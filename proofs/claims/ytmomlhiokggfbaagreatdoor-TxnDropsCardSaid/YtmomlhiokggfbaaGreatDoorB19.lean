/-
 Tk, TrPs, RefSl, Rk, RkW, RkY, RkN, RkS, Ref01P, Rf09, TrBg, TrVa, MapW, TrLk, TrEx, TrMp, TxnDropsLaw.
-/
import Derived.Test.YtmomlhiokggfbaaGreatDoorB18
import Derived.Test.YtmomlhiokggfbaaGreatDoorB17
import Derived.Test.YtmomlhiokggfbaaGreatDoorB07
import Derived.Deep.RegionHeld3
import Derived.StillTailTactics
import Derived.BigQuiet
import Derived.Test.YtmomlhiokggfbaaGreatDoorB13
import Derived.Test.YtmomlhiokggfbaaGreatDoorB03
import Derived.Test.YtmomlhiokggfbaaGreatDoorB09
import Derived.Test.YtmomlhiokggfbaaGreatDoorB16
import Derived.Test.YtmomlhiokggfbaaGreatDoorB01
import Derived.Test.YtmomlhiokggfbaaGreatDoorB04
import Derived.MapKept
import Derived.Test.YtmomlhiokggfbaaGreatDoorB02
import Derived.Deep.DeepCutAuto
import Derived.Deep.CutBlock
namespace Go.Proofs.YtmomlhiokggfbaaGreatDoor
open Go.RowKit
set_option maxRecDepth 20000
set_option maxHeartbeats 12800000
set_option linter.unusedVariables false
set_option linter.unusedSimpArgs false
def hZ (U : ByteArray) (dk : DkS) (st : ShS) : Prop := st.h.used = U
def usedZ (U : ByteArray) (dk : DkS) (st : ShS) : Prop := st.h.used = U ∧ st.fresh = []
def TrKF (Z : DkS → ShS → Prop) (gn : Int) (E0 : List Ent) (w : World) (d s n : Nat) (root : Int) (E : List Ent) (F : Nat → Prop) : Prop := ∃ dk st P0, SD w d s dk st F ∧ Good dk st ∧ TreeI dk st root E ∧ dk.S.length = n ∧ Cm dk st E0 P0 ∧ st.h.gen ≤ gn ∧ Z dk st
def TrK (Z : DkS → ShS → Prop) (gn : Int) (E0 : List Ent) (w0 : World) (R : List Nat) (w : World) (d s n : Nat) (root : Int) (E : List Ent) : Prop :=
 Below w0.heap.size w0 w ∧ ∃ F, TrKF Z gn E0 w d s n root E F ∧ (∀ k, F k → w0.heap.size ≤ k) ∧ ∀ k ∈ R, k < w.heap.size ∧ ¬ F k
section
variable {Z : DkS → ShS → Prop} {gn : Int} {E0 : List Ent} {w0 : World} {R : List Nat} {w : World} {d s n : Nat} {root : Int} {E : List Ent}
theorem TrKF.frm {w' : World} {F G : Nat → Prop} (h : TrKF Z gn E0 w d s n root E F) (hf : Frm G w w') (hd : ∀ k, F k → ¬ G k) : TrKF Z gn E0 w' d s n root E F := by
 obtain ⟨dk, st, P0, h1, h2⟩ := h;exact ⟨dk, st, P0, h1.frm hf hd, h2⟩
theorem TrKF.lt {F : Nat → Prop} (h : TrKF Z gn E0 w d s n root E F) (k : Nat) (hk : F k) : k < w.heap.size := by
 obtain ⟨dk, st, P0, h1, _⟩ := h;exact h1.lt k hk
theorem TrK.size (h : TrK Z gn E0 w0 R w d s n root E) : Below w0.heap.size w0 w := h.1
theorem TrK.hz {U : ByteArray} (h : TrK (usedZ U) gn E0 w0 R w d s n root E) : TrK (hZ U) gn E0 w0 R w d s n root E := by
 obtain ⟨h1, F, ⟨dk, st, P0, a1, a2, a3, a4, a5, a6, a7⟩, h3, h4⟩ := h;exact ⟨h1, F, ⟨dk, st, P0, a1, a2, a3, a4, a5, a6, a7.1⟩, h3, h4⟩
theorem TrK.below {w' : World} (h : TrK Z gn E0 w0 R w d s n root E) (hb : Below w.heap.size w w') : TrK Z gn E0 w0 R w' d s n root E := by
 obtain ⟨h1, F, h2, h3, h4⟩ := h;exact ⟨h1.trans (hb.mono h1.size), F, h2.frm (G := fun _ => False) (Frm.of_below hb) (fun _ _ h => h), h3, fun k hk => ⟨Nat.lt_of_lt_of_le (h4 k hk).1 hb.size, (h4 k hk).2⟩⟩
theorem TrK.kept {w' : World} (h : TrK Z gn E0 w0 R w d s n root E) (hb : Below w.heap.size w w') : KeptL R w w' := by
 obtain ⟨h1, F, h2, h3, h4⟩ := h;exact fun k hk => hb.block k (h4 k hk).1
theorem TrK.turn {w' : World} (h : TrK Z gn E0 w0 R w d s n root E) {k : Nat} (hk : k ∈ R) (h0 : w0.heap.size ≤ k) (hf : Frm (fun x => x = k) w w') : TrK Z gn E0 w0 R w' d s n root E := by
 obtain ⟨h1, F, h2, h3, h4⟩ := h;exact ⟨h1.trans (hf.below (fun i hi => by subst hi; exact h0) h1.size), F, h2.frm hf (fun i hi e => (h4 k hk).2 (e ▸ hi)), h3, fun i hi => ⟨Nat.lt_of_lt_of_le (h4 i hi).1 hf.size, (h4 i hi).2⟩⟩
theorem TrK.more {w' : World} (h : TrK Z gn E0 w0 R w d s n root E) (hb : Below w.heap.size w w') (k : Nat) (h1 : w.heap.size ≤ k) (h2 : k < w'.heap.size) : TrK Z gn E0 w0 (k :: R) w' d s n root E := by
 obtain ⟨a1, F, a2, a3, a4⟩ := h;refine ⟨a1.trans (hb.mono a1.size), F, a2.frm (G := fun _ => False) (Frm.of_below hb) (fun _ _ h => h), a3, fun i hi => ?_⟩
 rcases List.mem_cons.1 hi with rfl | hi
 ·exact ⟨h2, fun hx => by have := a2.lt _ hx; omega⟩
 ·exact ⟨Nat.lt_of_lt_of_le (a4 i hi).1 hb.size, (a4 i hi).2⟩
theorem TrK.sub {R' : List Nat} (h : TrK Z gn E0 w0 R w d s n root E) (hs : ∀ k ∈ R', k ∈ R) : TrK Z gn E0 w0 R' w d s n root E := by
 obtain ⟨h1, F, h2, h3, h4⟩ := h;exact ⟨h1, F, h2, h3, fun k hk => h4 k (hs k hk)⟩
theorem TrK.lt (h : TrK Z gn E0 w0 R w d s n root E) (k : Nat) (hk : k ∈ R) : k < w.heap.size := by
 obtain ⟨h1, F, h2, h3, h4⟩ := h;exact (h4 k hk).1
theorem put_KK {U : ByteArray} (h : TrK (hZ U) gn E0 w0 R w d s n root E) (H0 : Nat) (h9 : H0 ≤ 8) (hE : E.length < 2 ^ (H0 + 1)) (hn : 2 * E0.length + 2 * E.length + 2 * H0 + 5 ≤ n) (key : Int) (hk : 0 ≤ key ∧ key ≤ 18446744073709551615) (val : ByteArray) (hv : val.size ≤ 40) :
  Calls Tryz.prog 16 #[.pointer (some ⟨s, 0, none⟩), .int .i64 root, .int .u64 key, .string val] w fun e w' => ∃ q, e = .returned (.tuple #[.int .i64 q, .int .i64 0]) ∧ TrK (hZ U) gn E0 w0 R w' d s n q (insE key val E) ∧ KeptL R w w' := by
 obtain ⟨hb, F, ⟨dk, st, P0, h1, G, ht, hl, hc, hg, hz⟩, hF, hR⟩ := h;refine (tput_gen w d s dk st F h1 G root E ht H0 h9 hE (hc.room ht G H0 (by omega)) key hk val hv).mono ?_;rintro e w' ⟨q, dk', st', rfl, ⟨F', g1, g2, g3⟩, hT, hto⟩
 refine ⟨q, rfl, ⟨hb.trans (g2.below hF hb.size), F', ⟨dk', st', P0, g1, hto.g, hT, hto.len.trans hl, hc.to G hto, by rw [hto.h]; exact hg, by unfold hZ at hz ⊢; rw [hto.h]; exact hz⟩, fun k hk => (g3 k hk).elim (hF k) (fun hx => Nat.le_trans hb.size hx), fun k hk => ⟨Nat.lt_of_lt_of_le (hR k hk).1 g2.size, fun hx => ?_⟩⟩, fun k hk => g2.block k (hR k hk).1 (hR k hk).2⟩
 rcases g3 k hx with h4 | h4
 ·exact (hR k hk).2 h4
 ·have := (hR k hk).1; omega
theorem scan_K (h : TrK Z gn E0 w0 R w d s n root E) (hE : E.length ≤ 600) (key most : Int) :
  Calls Tryz.prog 19 #[.pointer (some ⟨s, 0, none⟩), .int .i64 root, .int .u64 key, .int .i64 most] w fun e w' => ∃ v, e = .returned (.tuple #[v, .int .i64 0]) ∧ RowE w' v ((scanE key E).take most.toNat) ∧ TrK Z gn E0 w0 (v.ownBlock.toList ++ R) w' d s n root E ∧ KeptL R w w' ∧ ∀ k, v.ownBlock = some k → w.heap.size ≤ k := by
 obtain ⟨hb, F, ⟨dk, st, P0, h1, G, ht, hr⟩, hF, hR⟩ := h;refine (scan_is w d s dk st F h1 G root E ht hE key most).mono ?_;rintro e w' ⟨v, rfl, ho, hp, hf⟩;have hlo := ho.lt;have hlt := h1.lt;refine ⟨v, rfl, ⟨ho.1, ho.2.imp id fun ⟨g, cap, cur, hv, _, r⟩ => ⟨g, cap, cur, hv, Nat.zero_le _, r⟩⟩, ⟨hb.trans (hf.below hF hb.size), F, ⟨dk, st, P0, hp, G, ht, hr⟩, hF, fun k hk => ?_⟩, fun k hk => hf.block k (hR k hk).1 (hR k hk).2, fun k hk => (hlo k hk).1⟩
 rcases List.mem_append.1 hk with hk | hk
 ·have hk' : v.ownBlock = some k := by simpa using hk
  exact ⟨(hlo k hk').2, fun hx => by have := hlt k hx; have := (hlo k hk').1; omega⟩
 ·exact ⟨Nat.lt_of_lt_of_le (hR k hk).1 hf.size, (hR k hk).2⟩
def StK (gn : Int) (E0 : List Ent) (U : ByteArray) (w0 : World) (R : List Nat) (w : World) (d s n : Nat) : Prop :=
 Below w0.heap.size w0 w ∧ ∃ FD FS dk st P0, DS w d s dk st FD FS ∧ Good dk st ∧ dk.S.length = n ∧ Cm dk st E0 P0 ∧ st.h.gen ≤ gn ∧ st.h.used = U ∧ st.fresh = [] ∧ st.given = [] ∧ (∀ k, FD k ∨ FS k → w0.heap.size ≤ k) ∧ ∀ k ∈ R, k < w.heap.size ∧ ¬ (FD k ∨ FS k)
theorem StK.size {U : ByteArray} (h : StK gn E0 U w0 R w d s n) : Below w0.heap.size w0 w := h.1
theorem StK.lt {U : ByteArray} (h : StK gn E0 U w0 R w d s n) (k : Nat) (hk : k ∈ R) : k < w.heap.size := by
 obtain ⟨_, FD, FS, dk, st, P0, _, _, _, _, _, _, _, _, _, h2⟩ := h;exact (h2 k hk).1
theorem StK.below {U : ByteArray} {w' : World} (h : StK gn E0 U w0 R w d s n) (hb : Below w.heap.size w w') : StK gn E0 U w0 R w' d s n := by
 obtain ⟨h0, FD, FS, dk, st, P0, h1, a2, a3, a4, a5, a6, a7, a8, a9, h2⟩ := h;exact ⟨h0.trans (hb.mono h0.size), FD, FS, dk, st, P0, h1.below hb, a2, a3, a4, a5, a6, a7, a8, a9, fun k hk => ⟨Nat.lt_of_lt_of_le (h2 k hk).1 hb.size, (h2 k hk).2⟩⟩
theorem StK.more {U : ByteArray} {w' : World} (h : StK gn E0 U w0 R w d s n) (hb : Below w.heap.size w w') (k : Nat) (k1 : w.heap.size ≤ k) (k2 : k < w'.heap.size) : StK gn E0 U w0 (k :: R) w' d s n := by
 obtain ⟨h0, FD, FS, dk, st, P0, h1, a2, a3, a4, a5, a6, a7, a8, a9, h2⟩ := h;refine ⟨h0.trans (hb.mono h0.size), FD, FS, dk, st, P0, h1.below hb, a2, a3, a4, a5, a6, a7, a8, a9, fun i hi => ?_⟩
 rcases List.mem_cons.1 hi with rfl | hi
 ·refine ⟨k2, fun hx => ?_⟩
  have : i < w.heap.size := SD.lt ⟨FD, FS, h1, fun _ => Iff.rfl⟩ i hx;omega
 ·exact ⟨Nat.lt_of_lt_of_le (h2 i hi).1 hb.size, (h2 i hi).2⟩
theorem StK.sub {U : ByteArray} {R' : List Nat} (h : StK gn E0 U w0 R w d s n) (hs : ∀ k ∈ R', k ∈ R) : StK gn E0 U w0 R' w d s n := by
 obtain ⟨h0, FD, FS, dk, st, P0, h1, a2, a3, a4, a5, a6, a7, a8, a9, h2⟩ := h;exact ⟨h0, FD, FS, dk, st, P0, h1, a2, a3, a4, a5, a6, a7, a8, a9, fun k hk => h2 k (hs k hk)⟩
def leftU (n : Nat) (U : ByteArray) : Int := (n : Int) - 2 - (cntL U.data.toList : Int)
theorem left_S {U : ByteArray} (h : StK gn E0 U w0 R w d s n) :
  Calls Tryz.prog 21 #[.pointer (some ⟨s, 0, none⟩)] w fun e w' => e = .returned (.int .i64 (leftU n U)) ∧ Below w.heap.size w w' := by
 obtain ⟨hb, FD, FS, dk, st, P0, h1, a2, a3, a4, a5, a6, a7, _⟩ := h;refine (left_is w s d dk st FD FS h1.dk h1.sto).mono ?_;rintro e w' ⟨rfl, hw⟩;refine ⟨?_, hw⟩;unfold leftN leftU;rw [a6, a7, a3];simp
theorem left_K {U : ByteArray} (h : TrK (usedZ U) gn E0 w0 R w d s n root E) :
  Calls Tryz.prog 21 #[.pointer (some ⟨s, 0, none⟩)] w fun e w' => e = .returned (.int .i64 (leftU n U)) ∧ Below w.heap.size w w' := by
 obtain ⟨hb, F, ⟨dk, st, P0, ⟨FD, FS, h1, _⟩, G, ht, hl, hc, hg, hz⟩, hF, hR⟩ := h;refine (left_is w s d dk st FD FS h1.dk h1.sto).mono ?_;rintro e w' ⟨rfl, hw⟩;refine ⟨?_, hw⟩;unfold leftN leftU;rw [hz.1, hz.2, hl];simp
theorem roll_S {U : ByteArray} (h : StK gn E0 U w0 R w d s n) :
  Calls Tryz.prog 25 #[.pointer (some ⟨s, 0, none⟩)] w fun e w' => e = .returned (.tuple #[]) ∧ StK gn E0 U w0 R w' d s n ∧ KeptL R w w' ∧ w.heap.size ≤ w'.heap.size := by
 obtain ⟨hb, FD, FS, dk, st, P0, h1, a2, a3, a4, a5, a6, a7, a8, a9, h2⟩ := h;refine (rollback_is w s d st FS h1.sto).mono ?_;rintro e w' ⟨rfl, hs, hf⟩
 have eb : st.back = st := by
  obtain ⟨h, f, g, u⟩ := st
  dsimp only at a7 a8
  subst a7 a8
  rfl
 rw [eb] at hs;exact ⟨rfl, ⟨hb.trans (hf.below (fun k hk => a9 k (.inr hk)) hb.size), FD, FS, dk, st, P0, ⟨h1.dk.frm hf (fun k hk hy => h1.apart k hk hy), hs, h1.apart⟩, a2, a3, a4, a5, a6, a7, a8, a9, fun k hk => ⟨Nat.lt_of_lt_of_le (h2 k hk).1 hf.size, (h2 k hk).2⟩⟩, fun k hk => hf.block k (h2 k hk).1 (fun hy => (h2 k hk).2 (.inr hy)), hf.size⟩
theorem root_S {U : ByteArray} (h : StK gn E0 U w0 R w d s n) : ∃ root, Calls Tryz.prog 26 #[.pointer (some ⟨s, 0, none⟩)] w (fun e w' => e = .returned (.int .i64 root) ∧ w = w') ∧ TrK (usedZ U) gn E0 w0 R w d s n root E0 := by
 obtain ⟨hb, FD, FS, dk, st, P0, h1, a2, a3, a4, a5, a6, a7, a8, a9, h2⟩ := h;exact ⟨st.h.root, root_is w s d st FS h1.sto, hb, fun k => FD k ∨ FS k, ⟨dk, st, P0, ⟨FD, FS, h1, fun _ => Iff.rfl⟩, a2, a4.tree a7 a8, a3, a4, a5, a6, a7⟩, a9, h2⟩
theorem commit_K (h : TrK Z gn E0 w0 R w d s n root E) (hg : gn ≤ 900) :
  Calls Tryz.prog 23 #[.pointer (some ⟨s, 0, none⟩), .int .i64 root] w fun e w' => e = .returned (.int .i64 0) ∧ (∃ U, StK (gn + 1) E U w0 R w' d s n) ∧ KeptL R w w' := by
 obtain ⟨hb, F, ⟨dk, st, P0, ⟨FD, FS, h1, he⟩, G, ht, hl, hc, hgn, _⟩, hF, hR⟩ := h;obtain ⟨dk', st', P, e1, e2, e3, e4, e5, e6, e7, e8⟩ := commit_cm hc G ht (by omega);have hr : root < 9223372036854775808 := by rw [← e6]; have := e3.hd.rt; omega
 refine (commit_is w d s dk st FD FS h1 root hr).mono ?_;rintro e w' ⟨rfl, FD', g1, g2, g3⟩;rw [e1] at g1 ⊢;have hx : ∀ k, FD k ∨ FS k → F k := fun k hk => (he k).2 hk
 refine ⟨rfl, ⟨st'.h.used, hb.trans (g2.below (fun k hk => hF k (hx k hk)) hb.size), FD', FS, dk', st', P, g1, e2, e8.trans hl, e3, by omega, rfl, e4, e5, fun k hk => ?_, fun k hk => ⟨Nat.lt_of_lt_of_le (hR k hk).1 g2.size, fun hy => ?_⟩⟩, fun k hk => g2.block k (hR k hk).1 (fun hy => (hR k hk).2 (hx k hy))⟩
 ·rcases hk with hk | hk
  ·rcases g3 k hk with h3 | h3
   ·exact hF k (hx k (.inl h3))
   ·exact Nat.le_trans hb.size h3
  ·exact hF k (hx k (.inr hk))
 ·rcases hy with hy | hy
  ·rcases g3 k hy with h3 | h3
   ·exact (hR k hk).2 (hx k (.inl h3))
   ·have := (hR k hk).1; omega
  ·exact (hR k hk).2 (hx k (.inr hy))
theorem mount_S {U : ByteArray} (h : StK gn E0 U w0 R w d s n) :
  Calls Tryz.prog 34 #[.pointer (some ⟨d, 0, none⟩)] w fun e w' => ∃ s', e = .returned (.tuple #[.pointer (some ⟨s', 0, none⟩), .int .i64 0]) ∧ StK gn E0 U w0 R w' d s' n ∧ KeptL R w w' := by
 obtain ⟨hb, FD, FS, dk, st, P0, h1, a2, a3, a4, a5, a6, a7, a8, a9, h2⟩ := h;obtain ⟨m1, m2⟩ := a4.hd.last a2.du;refine (mount_is w d dk FD h1.dk).mono fun e w' hp => ?_
 obtain ⟨v, he, s', FS', FD', rfl, g1, g2, g3, g4⟩ := hp.1 m1;rw [m2] at g1;refine ⟨s', he, ⟨hb.trans (g2.below (fun k hk => a9 k (.inl hk)) hb.size), FD', FS', dk, ShS.new st.h, P0, g1, ⟨a2.du, a2.df, a2.few, a2.least, rfl, fun x hx => (by cases hx), List.nodup_nil, a2.ub, fun x hx => (by cases hx)⟩, a3, ⟨a4.hd, a4.nd, a4.us, a4.tr⟩, a5, a6, rfl, rfl, fun k hk => ?_, fun k hk => ⟨Nat.lt_of_lt_of_le (h2 k hk).1 g2.size, fun hy => ?_⟩⟩, fun k hk => g2.block k (h2 k hk).1 (fun hy => (h2 k hk).2 (.inl hy))⟩
 ·rcases hk with hk | hk
  ·rcases g3 k hk with h3 | h3
   ·exact a9 k (.inl h3)
   ·exact Nat.le_trans hb.size h3
  ·exact Nat.le_trans hb.size (g4 k hk)
 ·rcases hy with hy | hy
  ·rcases g3 k hy with h3 | h3
   ·exact (h2 k hk).2 (.inl h3)
   ·have := (h2 k hk).1; omega
  ·have := g4 k hy; have := (h2 k hk).1; omega
end
theorem put1_isK {U : ByteArray} {gn : Int} {E0 : List Ent} {w0 w : World} {R : List Nat} {t d s n bt bk bv br : Nat} {root key : Int} {val : ByteArray} {E : List Ent} (h : TrK (hZ U) gn E0 w0 R w d s n root E) (ps : PutS bt bk bv t s root key val w) (hm : bt ∈ R ∧ bk ∈ R ∧ bv ∈ R ∧ t ∈ R) (ht0 : w0.heap.size ≤ t)
  (H0 : Nat) (h9 : H0 ≤ 8) (hE : E.length < 2 ^ (H0 + 1)) (hn : 2 * E0.length + 2 * E.length + 2 * H0 + 5 ≤ n) (hk : 0 ≤ key ∧ key ≤ 18446744073709551615) (hv : val.size ≤ 40) :
  Calls Tryz.prog 63 #[.pointer (some ⟨bt, 0, none⟩), .pointer (some ⟨bk, 0, none⟩), .pointer (some ⟨bv, 0, none⟩), .pointer (some ⟨br, 0, none⟩)] w fun e w' => e = .returned (.int .i64 0) ∧ ∃ q, TrK (hZ U) gn E0 w0 R w' d s n q (insE key val E) ∧ w'.heap[t]? = some (txC s q 0 false) ∧ ∀ k ∈ R, k ≠ t → w'.heap[k]? = w.heap[k]? := by
 have PS := Hd (show PutS bt bk bv t s root key val w.drew from ps);have PT := Hd (put_KK (h.below Br.drew) H0 h9 hE hn key hk val hv);have HM := Hd hm;have HT0 := Hd ht0;clear h ps h9 hE hn hk hv ht0;go_enter Tryz.func63, Tryz.ntmps63;go_upto_region 1 with fail
 refine wp_region_held_drew (S := fun w' => PutS bt bk bv t s root key val w') (by kernel_rfl) PS.out (fun hS => ?_);refine Hv 0 8 ?va0x1 hS ?ha0x1 ?_
 case ha0x1 =>
  intro w9 s9;have k9 := (box1 s9.1).1;clear s9;go_simp;try (with_reducible rfl)
 simp only [SL];refine Hu 1 9 hS ?_;simp only [SL];refine Hu 2 10 hS ?_;simp only [SL];refine Hv 3 11 ?va3x4 hS ?ha3x4 ?_
 case ha3x4 =>
  intro w9 s9;obtain ⟨k0, k1, _, _, _⟩ := cellsT s9.2.2.2;clear s9;go_simp;try (with_reducible rfl)
 simp only [SL];refine Hv 4 12 ?va4x5 hS ?ha4x5 ?_
 case ha4x5 =>
  intro w9 s9;have k9 := (box1 s9.1).1;clear s9;go_simp;try (with_reducible rfl)
 simp only [SL];refine Hu 5 13 hS ?_;simp only [SL];refine Hu 6 14 hS ?_;simp only [SL];refine Hv 7 15 ?va7x8 hS ?ha7x8 ?_
 case ha7x8 =>
  intro w9 s9;obtain ⟨k0, k1, _, _, _⟩ := cellsT s9.2.2.2;clear s9;go_simp;try (with_reducible rfl)
 simp only [SL];refine Hv 8 16 ?va8x9 hS ?ha8x9 ?_
 case ha8x9 =>
  intro w9 s9;have k9 := (box1 s9.2.1).1;clear s9;go_simp;try (with_reducible rfl)
 simp only [SL];refine Hv 9 17 ?va9x10 hS ?ha9x10 ?_
 case ha9x10 =>
  intro w9 s9;have k9 := (box1 s9.2.2.1).1;clear s9;go_simp;try (with_reducible rfl)
 simp only [SL];refine Hs 10 (fun K HK => ?_);go_simp;go_wp2_with fail;refine PT.out.mono ?_;rintro e w6 ⟨q, rfl, hT, hK⟩;refine HK.out _ _ ?_ ?_
 ·exact hS.kept hm hK
 clear HK K;try simp only [Act.put, SL]
 have hS' := hS.kept hm hK;clear hS;have hS := hS';clear hS';refine Hu 11 7 hS ?_;simp only [SL];refine Hu 12 19 hS ?_;simp only [SL];refine Hu 13 20 hS ?_;simp only [SL];refine Hu 14 5 hS ?_;simp only [SL];refine Hu 15 6 hS ?_;simp only [SL];refine wpAnyH_done (by kernel_rfl) ?_ _;have bx := (box1 hS.1).1;obtain ⟨d0, d1, d2, d3, g⟩ := cellsT hS.2.2.2;have g1 := g 1;obtain ⟨w7, hw7⟩ : ∃ w7, w6.setCell ⟨t, 1, none⟩ (.int .i64 q) = w7 := ⟨_, rfl⟩
 have FIN : Hid (∃ q, TrK (hZ U) gn E0 w0 R w7 d s n q (insE key val E) ∧ w7.heap[t]? = some (txC s q 0 false) ∧ ∀ k ∈ R, k ≠ t → w7.heap[k]? = w.heap[k]?) := Hd (by
  have f : Frm (fun k => k = t) w6 w7 := by rw [← hw7]; exact set_frmT _
  refine ⟨q, hT.turn HM.out.2.2.2 HT0.out f, ?_, fun k hk hne => (f.block k (hT.lt k hk) hne).trans (hK k hk)⟩;have h1 := hS.2.2.2;unfold txC at h1;rw [← hw7, heap_setCell_same _ _ 1 _ _ _ h1]
  rfl)
 clear hS hT hK g hm;go_upto_region 8 with fail
 try rw [hw7]
 clear hw7 bx d0 d1 d2 d3 g1;go_wp2_with fail;go_ret;exact ⟨rfl, FIN.out⟩
theorem boxes4K {U : ByteArray} {gn : Int} {E0 : List Ent} {w0 w : World} {R : List Nat} {t d s n : Nat} {root key : Int} {val : ByteArray} {E : List Ent} (h : TrK (hZ U) gn E0 w0 (t :: R) w d s n root E) (ht : w.heap[t]? = some (txC s root 0 false)) (x4 : World)
  (hx : (((w.alloc (.cells #[.pointer (some ⟨t, 0, none⟩)] 67)).alloc (.cells #[.int .u64 key] 28)).alloc (.cells #[.string val] 9)).alloc (.cells #[.bool false] 4) = x4) :
  TrK (hZ U) gn E0 w0 ((w.heap.size + 3) :: (w.heap.size + 2) :: (w.heap.size + 1) :: w.heap.size :: t :: R) x4 d s n root E ∧ PutS w.heap.size (w.heap.size + 1) (w.heap.size + 2) t s root key val x4 ∧ x4.heap[w.heap.size + 3]? = some (.cells #[.bool false] 4) ∧ KeptL (t :: R) w x4 ∧ t < w.heap.size ∧ (∀ k ∈ t :: R, k < w.heap.size) ∧ Below w.heap.size w x4 := by
 obtain ⟨x1, hx1⟩ : ∃ x1, w.alloc (.cells #[.pointer (some ⟨t, 0, none⟩)] 67) = x1 := ⟨_, rfl⟩
 obtain ⟨x2, hx2⟩ : ∃ x2, x1.alloc (.cells #[.int .u64 key] 28) = x2 := ⟨_, rfl⟩
 obtain ⟨x3, hx3⟩ : ∃ x3, x2.alloc (.cells #[.string val] 9) = x3 := ⟨_, rfl⟩
 rw [hx1, hx2, hx3] at hx;have z1 : x1.heap.size = w.heap.size + 1 := by rw [← hx1]; simp
 have z2 : x2.heap.size = w.heap.size + 2 := by rw [← hx2]; simp [z1]
 have z3 : x3.heap.size = w.heap.size + 3 := by rw [← hx3]; simp [z2]
 have z4 : x4.heap.size = w.heap.size + 4 := by rw [← hx]; simp [z3]
 have b1 : Below w.heap.size w x1 := by rw [← hx1]; exact below_made _ _
 have b2 : Below x1.heap.size x1 x2 := by rw [← hx2]; exact below_made _ _
 have b3 : Below x2.heap.size x2 x3 := by rw [← hx3]; exact below_made _ _
 have b4 : Below x3.heap.size x3 x4 := by rw [← hx]; exact below_made _ _
 have m1 : x1.heap[w.heap.size]? = some (.cells #[.pointer (some ⟨t, 0, none⟩)] 67) := by rw [← hx1]; exact heap_alloc_new w _
 have m2 : x2.heap[w.heap.size + 1]? = some (.cells #[.int .u64 key] 28) := by rw [← hx2, ← z1]; exact heap_alloc_new x1 _
 have m3 : x3.heap[w.heap.size + 2]? = some (.cells #[.string val] 9) := by rw [← hx3, ← z2]; exact heap_alloc_new x2 _
 have m4 : x4.heap[w.heap.size + 3]? = some (.cells #[.bool false] 4) := by rw [← hx, ← z3]; exact heap_alloc_new x3 _
 have hlt := h.lt;have ht' := hlt t (by simp);have bw : Below w.heap.size w x4 := ((b1.trans (b2.mono (by omega))).trans (b3.mono (by omega))).trans (b4.mono (by omega));refine ⟨(((h.more b1 w.heap.size (Nat.le_refl _) (by omega)).more b2 (w.heap.size + 1) (by omega) (by omega)).more b3 (w.heap.size + 2) (by omega) (by omega)).more b4 (w.heap.size + 3) (by omega) (by omega), ⟨?_, ?_, ?_, ?_⟩, m4, fun k hk => bw.block k (hlt k hk), ht', hlt, bw⟩
 ·exact (b4.block _ (by omega)).trans ((b3.block _ (by omega)).trans ((b2.block _ (by omega)).trans m1))
 ·exact (b4.block _ (by omega)).trans ((b3.block _ (by omega)).trans m2)
 ·exact (b4.block _ (by omega)).trans m3
 ·exact (bw.block t ht').trans ht
theorem put_TK {U : ByteArray} {gn : Int} {E0 : List Ent} {w0 w : World} {R : List Nat} {t d s n : Nat} {root key : Int} {val : ByteArray} {E : List Ent} (h : TrK (hZ U) gn E0 w0 (t :: R) w d s n root E) (ht : w.heap[t]? = some (txC s root 0 false)) (ht0 : w0.heap.size ≤ t)
  (H0 : Nat) (h9 : H0 ≤ 8) (hE : E.length < 2 ^ (H0 + 1)) (hn : 2 * E0.length + 2 * E.length + 2 * H0 + 5 ≤ n) (hk : 0 ≤ key ∧ key ≤ 18446744073709551615) (hv : val.size ≤ 40) :
  Calls Tryz.prog 31 #[.pointer (some ⟨t, 0, none⟩), .int .u64 key, .string val] w fun e w' => e = .returned (.bool true) ∧ ∃ q, TrK (hZ U) gn E0 w0 (t :: R) w' d s n q (insE key val E) ∧ w'.heap[t]? = some (txC s q 0 false) ∧ ∀ k ∈ R, k ≠ t → w'.heap[k]? = w.heap[k]? := by
 obtain ⟨x4, hx4⟩ : ∃ x4, (((w.alloc (.cells #[.pointer (some ⟨t, 0, none⟩)] 67)).alloc (.cells #[.int .u64 key] 28)).alloc (.cells #[.string val] 9)).alloc (.cells #[.bool false] 4) = x4 := ⟨_, rfl⟩
 obtain ⟨hT, hP, hB, hK, htl, hlt, bw⟩ := boxes4K (key := key) (val := val) h ht x4 hx4
 have DO := Hd (do_put x4 t s root #[.pointer (some ⟨w.heap.size, 0, none⟩), .pointer (some ⟨w.heap.size + 1, 0, none⟩), .pointer (some ⟨w.heap.size + 2, 0, none⟩), .pointer (some ⟨w.heap.size + 3, 0, none⟩)] hP.2.2.2
  (fun c w' => c = 0 ∧ ∃ q, TrK (hZ U) gn E0 w0 ((w.heap.size + 3) :: (w.heap.size + 2) :: (w.heap.size + 1) :: w.heap.size :: t :: R) w' d s n q (insE key val E) ∧ w'.heap[t]? = some (txC s q 0 false) ∧ ∀ k ∈ ((w.heap.size + 3) :: (w.heap.size + 2) :: (w.heap.size + 1) :: w.heap.size :: t :: R), k ≠ t → w'.heap[k]? = x4.heap[k]?)
  ((put1_isK hT hP (by simp) ht0 H0 h9 hE hn hk hv).mono fun e w' ⟨h1, q, h2, h3, h4⟩ => ⟨0, h1, ⟨rfl, q, h2, h3, h4⟩, q, h3⟩))
 have HF := Hd (And.intro hB (And.intro hK (And.intro htl (And.intro hlt ht0))));have bx := (box1 hP.1).1;have HX := Hd hx4;clear h ht hT hP hB hK htl hlt h9 hE hn hk hv ht0 bw hx4;go_enter Tryz.func31, Tryz.ntmps31;go_upto_region 2 with fail
 try simp only [Nat.add_assoc, Nat.reduceAdd, World.heap_size_alloc]
 rw [HX.out];go_wp2_with fail;refine DO.out.mono ?_;rintro e w6 ⟨c, w5, rfl, ⟨rfl, q, h1, h2, h3⟩, hw6⟩;obtain ⟨g1, g2⟩ := setT h2 hw6;have hbr : w6.heap[w.heap.size + 3]? = some (.cells #[.bool false] 4) := (g2.block _ (h1.lt _ (by simp)) (by have := HF.out.2.2.1; omega)).trans ((h3 _ (by simp) (by have := HF.out.2.2.1; omega)).trans HF.out.1);have cbr := (box1 hbr).1
 have FIN : Hid (∃ q, TrK (hZ U) gn E0 w0 (t :: R) w6 d s n q (insE key val E) ∧ w6.heap[t]? = some (txC s q 0 false) ∧ ∀ k ∈ R, k ≠ t → w6.heap[k]? = w.heap[k]?) := Hd (by
  refine ⟨q, (h1.turn (by simp) HF.out.2.2.2.2 g2).sub (fun k hk => by simp only [List.mem_cons] at hk ⊢; rcases hk with hk | hk <;> simp [hk]), g1, fun k hk hne => ?_⟩;have hm : k ∈ ((w.heap.size + 3) :: (w.heap.size + 2) :: (w.heap.size + 1) :: w.heap.size :: t :: R) := by simp [hk]
  exact (g2.block k (h1.lt k hm) hne).trans ((h3 k hm hne).trans (HF.out.2.1 k (by simp [hk]))))
 clear h1 h2 h3 hw6 g1 g2 hbr bx;go_wp2_with fail;go_ret;exact ⟨rfl, FIN.out⟩
theorem boxesGK {Z : DkS → ShS → Prop} {gn : Int} {E0 : List Ent} {w0 w : World} {R : List Nat} {t d s n : Nat} {root : Int} {E : List Ent} (h : TrK Z gn E0 w0 (t :: R) w d s n root E) (o1 o2 o3 o4 : Obj) (x4 : World) (hx : (((w.alloc o1).alloc o2).alloc o3).alloc o4 = x4) :
  TrK Z gn E0 w0 ((w.heap.size + 3) :: (w.heap.size + 2) :: (w.heap.size + 1) :: w.heap.size :: t :: R) x4 d s n root E ∧ x4.heap[w.heap.size]? = some o1 ∧ x4.heap[w.heap.size + 1]? = some o2 ∧ x4.heap[w.heap.size + 2]? = some o3 ∧ x4.heap[w.heap.size + 3]? = some o4 ∧ t < w.heap.size ∧ (∀ k ∈ t :: R, k < w.heap.size) ∧ Below w.heap.size w x4 := by
 obtain ⟨x1, hx1⟩ : ∃ x1, w.alloc o1 = x1 := ⟨_, rfl⟩
 obtain ⟨x2, hx2⟩ : ∃ x2, x1.alloc o2 = x2 := ⟨_, rfl⟩
 obtain ⟨x3, hx3⟩ : ∃ x3, x2.alloc o3 = x3 := ⟨_, rfl⟩
 rw [hx1, hx2, hx3] at hx;have z1 : x1.heap.size = w.heap.size + 1 := by rw [← hx1]; simp
 have z2 : x2.heap.size = w.heap.size + 2 := by rw [← hx2]; simp [z1]
 have z3 : x3.heap.size = w.heap.size + 3 := by rw [← hx3]; simp [z2]
 have z4 : x4.heap.size = w.heap.size + 4 := by rw [← hx]; simp [z3]
 have b1 : Below w.heap.size w x1 := by rw [← hx1]; exact below_made _ _
 have b2 : Below x1.heap.size x1 x2 := by rw [← hx2]; exact below_made _ _
 have b3 : Below x2.heap.size x2 x3 := by rw [← hx3]; exact below_made _ _
 have b4 : Below x3.heap.size x3 x4 := by rw [← hx]; exact below_made _ _
 have m1 : x1.heap[w.heap.size]? = some o1 := by rw [← hx1]; exact heap_alloc_new w _
 have m2 : x2.heap[w.heap.size + 1]? = some o2 := by rw [← hx2, ← z1]; exact heap_alloc_new x1 _
 have m3 : x3.heap[w.heap.size + 2]? = some o3 := by rw [← hx3, ← z2]; exact heap_alloc_new x2 _
 have m4 : x4.heap[w.heap.size + 3]? = some o4 := by rw [← hx, ← z3]; exact heap_alloc_new x3 _
 have hlt := h.lt;have bw : Below w.heap.size w x4 := ((b1.trans (b2.mono (by omega))).trans (b3.mono (by omega))).trans (b4.mono (by omega))
 exact ⟨(((h.more b1 w.heap.size (Nat.le_refl _) (by omega)).more b2 (w.heap.size + 1) (by omega) (by omega)).more b3 (w.heap.size + 2) (by omega) (by omega)).more b4 (w.heap.size + 3) (by omega) (by omega),
  (b4.block _ (by omega)).trans ((b3.block _ (by omega)).trans ((b2.block _ (by omega)).trans m1)), (b4.block _ (by omega)).trans ((b3.block _ (by omega)).trans m2), (b4.block _ (by omega)).trans m3, m4, hlt t (by simp), hlt, bw⟩
theorem scan1_isK {Z : DkS → ShS → Prop} {gn : Int} {E0 : List Ent} {w0 w : World} {R : List Nat} {t d s n bt bk bm bw : Nat} {root key most : Int} {E : List Ent} (h : TrK Z gn E0 w0 R w d s n root E) (LS : List Ent) (hLS : (scanE key E).take most.toNat = LS) (ps : ScnS bt bk bm t s root key most w) (hm : bt ∈ R ∧ bk ∈ R ∧ t ∈ R ∧ bm ∈ R) (hw : w.heap[bw]? = some (.cells #[.slice none 0 0] 43) ∧ bw ∈ R ∧ w0.heap.size ≤ bw ∧ bw < w.heap.size) (hn : bt ≠ bw ∧ bk ≠ bw ∧ t ≠ bw ∧ bm ≠ bw) (hE : E.length ≤ 600) :
  Calls Tryz.prog 67 #[.pointer (some ⟨bt, 0, none⟩), .pointer (some ⟨bk, 0, none⟩), .pointer (some ⟨bm, 0, none⟩), .pointer (some ⟨bw, 0, none⟩)] w fun e w' => e = .returned (.int .i64 0) ∧ ∃ v, TrK Z gn E0 w0 (v.ownBlock.toList ++ R) w' d s n root E ∧ w'.heap[bw]? = some (.cells #[v] 43) ∧ RowE w' v LS ∧ (∀ k ∈ R, k ≠ bw → w'.heap[k]? = w.heap[k]?) ∧ ∀ k, v.ownBlock = some k → w.heap.size ≤ k := by
 have PS := Hd (show ScnS bt bk bm t s root key most w.drew from ps);have PT0 := scan_K (h.below Br.drew) hE key most;rw [hLS] at PT0;have PT := Hd PT0;have HB := Hd hw;have HN := Hd hn;clear h ps hE hn hw hLS PT0;go_enter Tryz.func67, Tryz.ntmps67;go_upto_region 1 with fail
 refine wp_region_held_drew (S := fun w' => ScnS bt bk bm t s root key most w') (by kernel_rfl) PS.out (fun hS => ?_);refine Hv 0 6 ?vb0x1 hS ?hb0x1 ?_
 case hb0x1 =>
  intro w9 s9;have k9 := (box1 s9.1).1;clear s9;go_simp;try (with_reducible rfl)
 simp only [SL];refine Hu 1 7 hS ?_;simp only [SL];refine Hu 2 8 hS ?_;simp only [SL];refine Hv 3 9 ?vb3x4 hS ?hb3x4 ?_
 case hb3x4 =>
  intro w9 s9;obtain ⟨k0, k1, _, _, _⟩ := cellsT s9.2.2.1;clear s9;go_simp;try (with_reducible rfl)
 simp only [SL];refine Hv 4 10 ?vb4x5 hS ?hb4x5 ?_
 case hb4x5 =>
  intro w9 s9;have k9 := (box1 s9.1).1;clear s9;go_simp;try (with_reducible rfl)
 simp only [SL];refine Hu 5 11 hS ?_;simp only [SL];refine Hu 6 12 hS ?_;simp only [SL];refine Hv 7 13 ?vb7x8 hS ?hb7x8 ?_
 case hb7x8 =>
  intro w9 s9;obtain ⟨k0, k1, _, _, _⟩ := cellsT s9.2.2.1;clear s9;go_simp;try (with_reducible rfl)
 simp only [SL];refine Hv 8 14 ?vb8x9 hS ?hb8x9 ?_
 case hb8x9 =>
  intro w9 s9;have k9 := (box1 s9.2.1).1;clear s9;go_simp;try (with_reducible rfl)
 simp only [SL];refine Hv 9 15 ?vb9x10 hS ?hb9x10 ?_
 case hb9x10 =>
  intro w9 s9;have k9 := (box1 s9.2.2.2).1;clear s9;go_simp;try (with_reducible rfl)
 simp only [SL];refine Hs 10 (fun K HK => ?_);go_simp;go_wp2_with fail;refine PT.out.mono ?_;rintro e w6 ⟨v0, rfl, hrv, hT, hK, hnv⟩;obtain ⟨va, vc, rfl⟩ := hrv.shape;refine HK.out _ _ ?_ ?_
 ·exact hS.kept hm hK
 clear HK K;try simp only [Act.put, SL]
 have hS' := hS.kept hm hK;clear hS;have hS := hS';clear hS';have V0 := (hK bw HB.out.2.1).trans HB.out.1;obtain ⟨u0, u1⟩ := box1 V0;refine Hu 11 5 hS ?_;simp only [SL];refine Hu 12 17 hS ?_;simp only [SL];refine Hu 13 18 hS ?_;simp only [SL];refine Hs 14 (fun K HK => ?_);go_simp;go_wp2_with fail;refine HK.out _ _ ?_ ?_
 ·exact hS.set HN.out
 clear HK K;try simp only [Act.put, SL]
 obtain ⟨w7, hw7⟩ : ∃ w7, w6.setCell ⟨bw, 0, none⟩ (.slice va LS.length vc) = w7 := ⟨_, rfl⟩
 have FIN : Hid (∃ v, TrK Z gn E0 w0 (v.ownBlock.toList ++ R) w7 d s n root E ∧ w7.heap[bw]? = some (.cells #[v] 43) ∧ RowE w7 v LS ∧ (∀ k ∈ R, k ≠ bw → w7.heap[k]? = w.heap[k]?) ∧ ∀ k, v.ownBlock = some k → w.heap.size ≤ k) := Hd (by
  have f7 : Frm (fun k => k = bw) w6 w7 := by rw [← hw7]; exact set_frmT _
  refine ⟨_, hT.turn (List.mem_append.2 (.inr HB.out.2.1)) HB.out.2.2.1 f7, ?_, hrv.kept (fun k hk => f7.block k (hT.lt k (List.mem_append.2 (.inl (by simp [hk])))) (fun e => by have h1 : w.heap.size ≤ k := hnv k hk; have := HB.out.2.2.2; omega)), fun k hk h1 => (f7.block k (hT.lt k (List.mem_append.2 (.inr hk))) h1).trans (hK k hk), hnv⟩;rw [← hw7, heap_setCell_same _ _ 0 _ _ _ V0]
  rfl)
 have hS2 : ScnS bt bk bm t s root key most w7 := by rw [← hw7]; exact hS.set HN.out
 rw [hw7];clear hS hT hK hrv hnv V0 u0 u1 hw7;have hS := hS2;clear hS2;refine Hu 15 4 hS ?_;simp only [SL];refine wpAnyH_done (by kernel_rfl) ?_ _;clear hS;go_wp2_with fail;go_ret;exact ⟨rfl, FIN.out⟩
theorem scan_TK {Z : DkS → ShS → Prop} {gn : Int} {E0 : List Ent} {w0 w : World} {R : List Nat} {t d s n : Nat} {root key most : Int} {E : List Ent} (h : TrK Z gn E0 w0 (t :: R) w d s n root E) (ht : w.heap[t]? = some (txC s root 0 false)) (ht0 : w0.heap.size ≤ t) (hE : E.length ≤ 600) (LS : List Ent) (hLS : (scanE key E).take most.toNat = LS) :
  Calls Tryz.prog 35 #[.pointer (some ⟨t, 0, none⟩), .int .u64 key, .int .i64 most] w fun e w' => ∃ v, e = .returned v ∧ TrK Z gn E0 w0 (t :: (v.ownBlock.toList ++ R)) w' d s n root E ∧ w'.heap[t]? = some (txC s root 0 false) ∧ RowE w' v LS ∧ (∀ k ∈ R, k ≠ t → w'.heap[k]? = w.heap[k]?) ∧ ∀ k, v.ownBlock = some k → w.heap.size ≤ k := by
 obtain ⟨x4, hx4⟩ : ∃ x4, (((w.alloc (.cells #[.pointer (some ⟨t, 0, none⟩)] 67)).alloc (.cells #[.int .u64 key] 28)).alloc (.cells #[.int .i64 most] 3)).alloc (.cells #[.slice none 0 0] 43) = x4 := ⟨_, rfl⟩
 obtain ⟨hT, m1, m2, m3, m4, htl, hlt, bw⟩ := boxesGK h _ _ _ _ x4 hx4;have ht4 := (bw.block t htl).trans ht;have hs0 := h.size.size
 have DO := Hd (do_scan x4 t s root #[.pointer (some ⟨w.heap.size, 0, none⟩), .pointer (some ⟨w.heap.size + 1, 0, none⟩), .pointer (some ⟨w.heap.size + 2, 0, none⟩), .pointer (some ⟨w.heap.size + 3, 0, none⟩)] ht4
  (fun c w' => c = 0 ∧ ∃ v, TrK Z gn E0 w0 (v.ownBlock.toList ++ ((w.heap.size + 3) :: (w.heap.size + 2) :: (w.heap.size + 1) :: w.heap.size :: t :: R)) w' d s n root E ∧ w'.heap[w.heap.size + 3]? = some (.cells #[v] 43) ∧ RowE w' v LS ∧ (∀ k ∈ ((w.heap.size + 3) :: (w.heap.size + 2) :: (w.heap.size + 1) :: w.heap.size :: t :: R), k ≠ w.heap.size + 3 → w'.heap[k]? = x4.heap[k]?) ∧ ∀ k, v.ownBlock = some k → x4.heap.size ≤ k)
  ((scan1_isK hT LS hLS ⟨m1, m2, ht4, m3⟩ (by simp) ⟨m4, by simp, by omega, hT.lt _ (by simp)⟩ ⟨by omega, by omega, by omega, by omega⟩ hE).mono fun e w' ⟨h1, v, h2, h3, h4, h5, h6⟩ => ⟨0, h1, ⟨rfl, v, h2, h3, h4, h5, h6⟩, root, (h5 t (by simp) (by omega)).trans ht4⟩))
 have HF := Hd (And.intro ht4 (And.intro bw (And.intro htl (And.intro hlt ht0))));have bx := (box1 m1).1;have HX := Hd hx4;clear h ht hT m1 m2 m3 m4 htl hlt ht0 bw hx4 hE ht4 hs0 hLS;go_enter Tryz.func35, Tryz.ntmps35;go_upto_region 2 with fail
 try simp only [Nat.add_assoc, Nat.reduceAdd, World.heap_size_alloc]
 rw [HX.out];go_wp2_with fail;refine DO.out.mono ?_;rintro e w6 ⟨c, w5, rfl, ⟨rfl, v, h1, h2, h3, h4, h5⟩, hw6⟩;have htl := HF.out.2.2.1;have hsz := HF.out.2.1.size;obtain ⟨g1, g2⟩ := setT ((h4 t (by simp) (by omega)).trans HF.out.1) hw6;have cv := (box1 ((g2.block _ (h1.lt (w.heap.size + 3) (List.mem_append.2 (.inr (by simp)))) (by omega)).trans h2)).1;obtain ⟨va, vc, rfl⟩ := h3.shape
 have FIN : Hid (∃ v, (Value.slice va LS.length vc) = v ∧ TrK Z gn E0 w0 (t :: (v.ownBlock.toList ++ R)) w6 d s n root E ∧ w6.heap[t]? = some (txC s root 0 false) ∧ RowE w6 v LS ∧ (∀ k ∈ R, k ≠ t → w6.heap[k]? = w.heap[k]?) ∧ ∀ k, v.ownBlock = some k → w.heap.size ≤ k) := Hd (by
  refine ⟨_, rfl, (h1.turn (List.mem_append.2 (.inr (by simp))) HF.out.2.2.2.2 g2).sub (fun k hk => by simp only [List.mem_cons, List.mem_append] at hk ⊢; rcases hk with hk | hk | hk <;> simp [hk]), g1, h3.kept (fun k hk => g2.block k (h1.lt k (List.mem_append.2 (.inl (by simp [hk])))) (fun e => by have := h5 k hk; omega)), fun k hk hne => ?_, fun k hk => by have := h5 k hk; omega⟩;have hm : k ∈ ((w.heap.size + 3) :: (w.heap.size + 2) :: (w.heap.size + 1) :: w.heap.size :: t :: R) := by simp [hk]
  have hkl := HF.out.2.2.2.1 k (by simp [hk]);exact (g2.block k (h1.lt k (List.mem_append.2 (.inr hm))) hne).trans ((h4 k hm (by omega)).trans (HF.out.2.1.block k hkl)))
 clear h1 h2 h3 h4 h5 hw6 g1 g2 bx htl hsz;go_wp2_with fail;go_ret;obtain ⟨v, rfl, h⟩ := FIN.out;exact ⟨_, rfl, h⟩
theorem begin_S {gn : Int} {E0 : List Ent} {U : ByteArray} {w0 w : World} {R : List Nat} {d s n : Nat} (h : StK gn E0 U w0 R w d s n) :
  Calls Tryz.prog 30 #[.pointer (some ⟨s, 0, none⟩)] w fun e w' => ∃ t root, e = .returned (.pointer (some ⟨t, 0, none⟩)) ∧ TrK (usedZ U) gn E0 w0 (t :: R) w' d s n root E0 ∧ w'.heap[t]? = some (txC s root 0 false) ∧ w.heap.size ≤ t ∧ KeptL R w w' := by
 have RB := Hd (roll_S h);have HSZ := Hd h.size;clear h;go_enter Tryz.func30, Tryz.ntmps30;go_wp2_with fail;refine RB.out.mono ?_;rintro e w1 ⟨rfl, hs, hk, hsz⟩;have HS0 := Hd hsz;obtain ⟨root, hr, hq⟩ := root_S hs;have RT := Hd hr;have HZ := Hd hs.size
 have FIN : Hid (TrK (usedZ U) gn E0 w0 (w1.heap.size :: R) (w1.alloc (txC s root 0 false)) d s n root E0 ∧ (w1.alloc (txC s root 0 false)).heap[w1.heap.size]? = some (txC s root 0 false) ∧ w.heap.size ≤ w1.heap.size ∧ KeptL R w (w1.alloc (txC s root 0 false))) := Hd (by
  refine ⟨hq.more (below_made _ _) _ (Nat.le_refl _) (by simp), heap_alloc_new _ _, ?_, hk.trans (hq.kept (below_made _ _))⟩;exact HS0.out)
 unfold txC at FIN;clear hs hk hr hq RB;go_wp2_with fail;refine RT.out.mono ?_;rintro e w2 ⟨rfl, rfl⟩;clear RT;go_wp2_with fail;go_ret;exact ⟨_, _, rfl, FIN.out⟩
theorem commit_TK {Z : DkS → ShS → Prop} {gn : Int} {E0 : List Ent} {w0 w : World} {R : List Nat} {t d s n : Nat} {root : Int} {E : List Ent} (h : TrK Z gn E0 w0 (t :: R) w d s n root E) (ht : w.heap[t]? = some (txC s root 0 false)) (ht0 : w0.heap.size ≤ t) (hg : gn ≤ 900) :
  Calls Tryz.prog 32 #[.pointer (some ⟨t, 0, none⟩)] w fun e w' => e = .returned (.int .i64 0) ∧ (∃ U, StK (gn + 1) E U w0 (t :: R) w' d s n) ∧ ∀ k ∈ R, k ≠ t → w'.heap[k]? = w.heap[k]? := by
 obtain ⟨c0, c1, c2, c3, g⟩ := cellsT ht;have g3 := g 3;obtain ⟨w1, hw1⟩ : ∃ w1, w.setCell ⟨t, 3, none⟩ (.bool true) = w1 := ⟨_, rfl⟩
 have f1 : Frm (fun k => k = t) w w1 := by rw [← hw1]; exact set_frmT _
 have h1 := h.turn (by simp) ht0 f1
 have k1 : w1.heap[t]? = some (txC s root 0 true) := by
  unfold txC at ht ⊢;rw [← hw1, heap_setCell_same _ _ 3 _ _ _ ht]
  rfl
 obtain ⟨d0, d1, d2, d3, _⟩ := cellsT k1;have CM := Hd fun wq (hq : TrK Z gn E0 w0 (t :: R) wq d s n root E) => commit_K hq hg
 have H1 := Hd h1;have K1 := Hd k1;have HW := Hd hw1;have F1 := Hd f1;have HLT := Hd h.lt;clear h ht ht0 g f1 h1 k1 hw1;go_enter Tryz.func32, Tryz.ntmps32;go_upto_region 7 with fail
 rw [HW.out];clear c0 c1 c2 c3 g3 HW;refine wp_region_held_drew (S := fun w' => w'.heap[t]? = some (txC s root 0 true)) (by kernel_rfl) K1.out (fun hS => ?_);refine Hu 0 22 hS ?_;simp only [SL];refine Hu 1 23 hS ?_;simp only [SL];refine Hu 2 24 hS ?_;simp only [SL];refine Hv 3 25 ?vc3x4 hS ?hc3x4 ?_
 case hc3x4 =>
  intro w9 s9;obtain ⟨k0, k1, _, _, _⟩ := cellsT s9;clear s9;go_simp;try (with_reducible rfl)
 simp only [SL];refine Hu 4 26 hS ?_;simp only [SL];refine Hu 5 27 hS ?_;simp only [SL];refine Hu 6 28 hS ?_;simp only [SL];refine Hv 7 29 ?vc7x8 hS ?hc7x8 ?_
 case hc7x8 =>
  intro w9 s9;obtain ⟨k0, k1, _, _, _⟩ := cellsT s9;clear s9;go_simp;try (with_reducible rfl)
 simp only [SL];refine Hs 8 (fun K HK => ?_);go_simp;go_wp2_with fail;refine (CM.out _ (H1.out.below Br.drew)).mono ?_;rintro e w6 ⟨rfl, hb, hK⟩;have HB := Hd (And.intro hb (show ∀ k ∈ R, k ≠ t → w6.heap[k]? = w.heap[k]? from fun k hk hne => (hK k (by simp [hk])).trans (F1.out.block k (HLT.out k (by simp [hk])) hne)));refine HK.out _ _ ?_ ?_
 ·exact (hK t (by simp)).trans hS
 clear HK K;try simp only [Act.put, SL]
 clear hS;have hS := hK t (by simp);have HS2 := Hd (hS.trans K1.out);clear hS;have hS := HS2.out;refine Hu 9 3 hS ?_;simp only [SL];refine wpAnyH_done (by kernel_rfl) ?_ _;clear hS hb hK;go_wp2_with fail;go_ret;exact ⟨rfl, HB.out⟩
theorem drop_TK {U : ByteArray} {gn : Int} {E0 : List Ent} {w0 w : World} {R : List Nat} {t d s n : Nat} {root : Int} {E : List Ent} (h : TrK (hZ U) gn E0 w0 (t :: R) w d s n root E) (ht : w.heap[t]? = some (txC s root 0 false)) (ht0 : w0.heap.size ≤ t) :
  Calls Tryz.prog 33 #[.pointer (some ⟨t, 0, none⟩)] w fun e w' => e = .returned (.tuple #[]) ∧ StK gn E0 U w0 (t :: R) w' d s n ∧ w'.heap[t]? = some (txC s root 0 true) ∧ ∀ k ∈ R, k ≠ t → w'.heap[k]? = w.heap[k]? := by
 obtain ⟨c0, c1, c2, c3, g⟩ := cellsT ht;have g3 := g 3;obtain ⟨w1, hw1⟩ : ∃ w1, w.setCell ⟨t, 3, none⟩ (.bool true) = w1 := ⟨_, rfl⟩
 have f1 : Frm (fun k => k = t) w w1 := by rw [← hw1]; exact set_frmT _
 have h1 := h.turn (by simp) ht0 f1
 have k1 : w1.heap[t]? = some (txC s root 0 true) := by
  unfold txC at ht ⊢;rw [← hw1, heap_setCell_same _ _ 3 _ _ _ ht]
  rfl
 obtain ⟨d0, d1, d2, d3, _⟩ := cellsT k1
 have RB : Hid (Calls Tryz.prog 25 #[.pointer (some ⟨s, 0, none⟩)] w1 fun e w' => e = .returned (.tuple #[]) ∧ StK gn E0 U w0 (t :: R) w' d s n ∧ w'.heap[t]? = some (txC s root 0 true) ∧ ∀ k ∈ R, k ≠ t → w'.heap[k]? = w.heap[k]?) := Hd (by
  have hlt := h.lt;obtain ⟨hb, F, ⟨dk, st, P0, ⟨FD, FS, hd, he⟩, G, hT, hl, hc, hgn, hz⟩, hF, hR⟩ := h1;refine (rollback_is w1 s d st FS hd.sto).mono ?_;rintro e w' ⟨rfl, hs, hf⟩;have hx : ∀ k, FS k → F k := fun k hk => (he k).2 (.inr hk)
  have kp : ∀ k ∈ t :: R, w'.heap[k]? = w1.heap[k]? := fun k hk => hf.block k (hR k hk).1 (fun hy => (hR k hk).2 (hx k hy))
  refine ⟨rfl, ⟨hb.trans (hf.below (fun k hk => hF k (hx k hk)) hb.size), FD, FS, dk, st.back, P0, ⟨hd.dk.frm hf (fun k hk hy => hd.apart k hk hy), hs, hd.apart⟩, ⟨G.du, G.df, G.few, G.least, G.su, fun x hx => (by cases hx), List.nodup_nil, G.ub, fun x hx => (by cases hx)⟩, hl, ⟨hc.hd, hc.nd, hc.us, hc.tr⟩, hgn, hz, rfl, rfl, fun k hk => hF k ((he k).2 hk), fun k hk => ⟨Nat.lt_of_lt_of_le (hR k hk).1 hf.size, fun hy => (hR k hk).2 ((he k).2 hy)⟩⟩, (kp t (by simp)).trans k1, fun k hk hne => (kp k (by simp [hk])).trans (f1.block k (hlt k (by simp [hk])) hne)⟩)
 have HW := Hd hw1;clear h ht ht0 g f1 h1 k1 hw1;go_enter Tryz.func33, Tryz.ntmps33;go_upto_region 2 with fail
 rw [HW.out];clear c0 c1 c2 c3 g3 HW;go_wp2_with fail;refine RB.out.mono ?_;rintro e w6 ⟨rfl, h⟩;have FIN := Hd h;clear h RB d0 d1 d2 d3;go_wp2_with fail
 go_end0
 exact ⟨rfl, FIN.out⟩
theorem made12_cm (w : World) (n : Nat) (h8 : 8 ≤ n) (hn : n ≤ 640) :
  Calls Tryz.prog 29 #[.int .i64 (n : Int)] w fun e w' => ∃ d s, e = .returned (.tuple #[.pointer (some ⟨d, 0, none⟩), .pointer (some ⟨s, 0, none⟩)]) ∧ DSL w w' d s (wrHead (DkS.fresh n) fmtH).1 (ShS.new fmtH) ∧ Good (wrHead (DkS.fresh n) fmtH).1 (ShS.new fmtH) ∧ (wrHead (DkS.fresh n) fmtH).1.S.length = n := by
 have NY := Hd fun w => new_yes w n h8 hn
 have hln : (DkS.fresh n).S.length = n := by show (List.replicate n zs).length = n; rw [List.length_replicate]
 have FG := Hd (fmt_good (DkS.fresh n) rfl rfl (by rw [hln]; exact h8) (by rw [hln]; exact hn));rw [hln] at FG;clear h8 hn hln;go_enter Tryz.func29, Tryz.ntmps29;go_wp2_with fail;refine (NY.out _).mono ?_;intro e w1 hm;obtain ⟨d, rfl, hd⟩ := made_L Br hm;clear hm NY;have HD := Hd hd;clear hd;have pn := ptr_nilD ⟨d, 0, none⟩;go_wp2_with fail;refine (format_L HD.out FG.out.1).mono ?_;rintro e w3 ⟨s, rfl, hs⟩;have HS3 := Hd hs;clear hs HD;have sn := ptr_nilS ⟨s, 0, none⟩;go_wp2_with fail;go_ret2;exact ⟨d, s, rfl, HS3.out, FG.out.2.1, FG.out.2.2.2⟩
theorem made_K (w : World) (n : Nat) (h8 : 8 ≤ n) (hn : n ≤ 640) :
  Calls Tryz.prog 29 #[.int .i64 (n : Int)] w fun e w' => ∃ d s U, e = .returned (.tuple #[.pointer (some ⟨d, 0, none⟩), .pointer (some ⟨s, 0, none⟩)]) ∧ StK 1 [] U w [] w' d s n := by
 refine (made12_cm w n h8 hn).mono ?_;rintro e w' ⟨d, s, rfl, ⟨FD, FS, h1, h2, h3, h4⟩, h5, h6⟩;exact ⟨d, s, _, rfl, h2, FD, FS, _, _, [], h1, h5, h6, cm_new n h8 hn, by decide, rfl, rfl, rfl, fun k hk => hk.elim (h3 k) (h4 k), fun k hk => by cases hk⟩
attribute [local go_sem] Oper.semAt_some










def getW : List (Int × Value) → Int → Option Value
 | [], _ => none
 | p :: L, k => if p.1 = k then some p.2 else getW L k
def setW : List (Int × Value) → Int → Value → List (Int × Value)
 | [], k, v => [(k, v)]
 | p :: L, k, v => if p.1 = k then (k, v) :: L else p :: setW L k v
theorem getW_set (L : List (Int × Value)) (k : Int) (v : Value) (k' : Int) : getW (setW L k v) k' = if k' = k then some v else getW L k' := by
 induction L with
 | nil =>
  simp only [setW, getW]
  by_cases h : k = k'
  ·rw [if_pos h, if_pos h.symm]
  ·rw [if_neg h, if_neg (Ne.symm h)]
 | cons p L ih =>
  simp only [setW]
  by_cases h : p.1 = k
  ·rw [if_pos h]
   simp only [getW]
   by_cases h2 : k = k'
   ·rw [if_pos h2, if_pos h2.symm]
   ·rw [if_neg h2, if_neg (Ne.symm h2), if_neg (by rw [h]; exact h2)]
  ·rw [if_neg h]
   simp only [getW, ih]
   by_cases h2 : p.1 = k'
   ·rw [if_pos h2, if_neg (by rw [← h2]; exact h), if_pos h2]
   ·rw [if_neg h2, if_neg h2]
theorem mem_setW {L : List (Int × Value)} {k x : Int} {v : Value} : x ∈ (setW L k v).map (·.1) ↔ x = k ∨ x ∈ L.map (·.1) := by
 induction L with
 | nil => simp [setW]
 | cons p L ih =>
  simp only [setW]
  split
  ·rename_i hp
   simp only [List.map_cons, List.mem_cons, hp];exact ⟨fun h => h.elim .inl (fun h => .inr (.inr h)), fun h => h.elim .inl id⟩
  ·simp only [List.map_cons, List.mem_cons, ih]
   exact ⟨fun h => h.elim (fun h => .inr (.inl h)) (fun h => h.elim .inl (fun h => .inr (.inr h))), fun h => h.elim (fun h => .inr (.inl h)) (fun h => h.elim .inl (fun h => .inr (.inr h)))⟩
theorem setW_nodup {L : List (Int × Value)} (k : Int) (v : Value) (h : (L.map (·.1)).Nodup) : ((setW L k v).map (·.1)).Nodup := by
 induction L with
 | nil => simp [setW]
 | cons p L ih =>
  rw [List.map_cons, List.nodup_cons] at h;simp only [setW]
  split
  ·rename_i hp
   rw [List.map_cons, List.nodup_cons];exact ⟨hp ▸ h.1, h.2⟩
  ·rename_i hp
   rw [List.map_cons, List.nodup_cons];refine ⟨fun hx => ?_, ih h.2⟩
   rcases mem_setW.1 hx with hx | hx
   ·exact hp hx
   ·exact h.1 hx
theorem getW_mem {L : List (Int × Value)} {k : Int} : (getW L k).isSome = true ↔ k ∈ L.map (·.1) := by
 induction L with
 | nil => simp [getW]
 | cons p L ih =>
  simp only [getW, List.map_cons, List.mem_cons]
  split
  ·rename_i hp; simp [hp]
  ·rename_i hp
   rw [ih];exact ⟨.inr, fun h => h.elim (fun h => absurd h.symm hp) id⟩
def EntW (L : List (Int × Value)) (l : List MapEntry) : Prop := l.map (fun e => (e.key, e.val)) = L.map (fun p => (Value.int .u64 p.1, p.2))
def MapW (w : World) (m : Nat) (L : List (Int × Value)) : Prop := ∃ es clock, w.heap[m]? = some (.map es clock) ∧ EntW L es.toList
theorem MapW.lt {w : World} {m : Nat} {L : List (Int × Value)} (h : MapW w m L) : m < w.heap.size := by
 obtain ⟨es, c, hb, _⟩ := h;exact (Array.getElem?_eq_some_iff.1 hb).1
theorem MapW.kept {w w' : World} {m : Nat} {L : List (Int × Value)} (h : MapW w m L) (e : w'.heap[m]? = w.heap[m]?) : MapW w' m L := by
 obtain ⟨es, c, hb, he⟩ := h;exact ⟨es, c, e.trans hb, he⟩
theorem MapW.below {w w' : World} {m : Nat} {L : List (Int × Value)} (h : MapW w m L) (hb : Below w.heap.size w w') : MapW w' m L := h.kept (hb.block _ h.lt)
def dW : TypeDesc := .int .u64
theorem same_W (a b : Int) : Instr.sameNow dW (.int .u64 a) (.int .u64 b) = some (a == b) := by simp [Instr.sameNow, dW]
theorem findW (n : Int) : ∀ (l : List MapEntry) (L : List (Int × Value)) (i : Nat), EntW L l →
  (Instr.findNow dW (.int .u64 n) l i = some none ∧ getW L n = none ∧ ∀ v, setW L n v = L ++ [(n, v)]) ∨ ∃ j v, Instr.findNow dW (.int .u64 n) l i = some (some (i + j, v)) ∧ j < l.length ∧ getW L n = some v ∧ L.map (·.1) = L.map (·.1) ∧ ∀ v', setW L n v' = L.set j (n, v')
 | [], L, _, h => by
  cases L with
  | nil => exact .inl ⟨rfl, rfl, fun _ => rfl⟩
  | cons p L => simp [EntW] at h
 | e :: l, [], _, h => by simp [EntW] at h
 | e :: l, p :: L, i, h => by
  simp only [EntW, List.map_cons, List.cons.injEq, Prod.mk.injEq] at h
  by_cases hp : p.1 = n
  ·refine .inr ⟨0, p.2, ?_, by simp, ?_, rfl, ?_⟩
   ·have hs : Instr.sameNow dW (.int .u64 n) e.key = some true := by rw [h.1.1, same_W, hp]; simp
    simp only [Instr.findNow, hs, h.1.2, Nat.add_zero]
   ·simp only [getW]; rw [if_pos hp]
   ·intro v'; simp only [setW]; rw [if_pos hp]; rfl
  ·have hs : Instr.sameNow dW (.int .u64 n) e.key = some false := by
    rw [h.1.1, same_W]
    congr 1
    rw [beq_eq_false_iff_ne];exact Ne.symm hp
   rcases findW n l L (i + 1) h.2 with ⟨h1, h2, h3⟩ | ⟨j, v, h1, h2, h3, _, h4⟩
   ·refine .inl ⟨by simp only [Instr.findNow, hs]; exact h1, by simp only [getW]; rw [if_neg hp]; exact h2, fun v => ?_⟩
    simp only [setW]; rw [if_neg hp, h3]; rfl
   ·refine .inr ⟨j + 1, v, by simp only [Instr.findNow, hs]; rw [h1]; congr 3; omega, by simpa using h2, by simp only [getW]; rw [if_neg hp]; exact h3, rfl, fun v' => ?_⟩
    simp only [setW]; rw [if_neg hp, h4]; rfl
section
variable {P : Program} {w : World} {m : Nat} {L : List (Int × Value)} {t k e : TypeId} (ht : P.underlying t = some (.map k e)) (hk : P.underlying k = some (.int .u64))
include ht hk
theorem lookupW (h : MapW w m L) (n : Int) (z : Value) (hz : (zeroValue e).run P w = .ok z w) (ok : Bool) :
  (Instr.lookup t (.map (some m)) (.int .u64 n) ok).run P w = .ok (if ok then .tuple #[((getW L n).getD z), .bool (getW L n).isSome] else ((getW L n).getD z)) w := by
 obtain ⟨es, c, hb, he⟩ := h;have h1 := MapKept.run_getObj_map (P := P) hb;have h2 := MapKept.run_checkKey (P := P) (w := w) hk (k := .int .u64 n) (by first | rfl | trivial | exact ⟨_, rfl⟩) es.isEmpty 9999
 rcases findW n es.toList L 0 he with ⟨f1, f2, _⟩ | ⟨j, v, f1, _, f2, _, _⟩
 ·have h3 := MapKept.run_findKey (P := P) (w := w) hk f1
  rw [f2]
  cases ok <;> simp [Instr.lookup, run_underlying ht, h1, h2, h3, hz]
 ·have h3 := MapKept.run_findKey (P := P) (w := w) hk f1
  rw [f2]
  cases ok <;> simp [Instr.lookup, run_underlying ht, h1, h2, h3]
theorem updateW (h : MapW w m L) (n : Int) (v : Value) :
  ∃ o, (Instr.mapUpdate t (.map (some m)) (.int .u64 n) v).run P w = .ok () { w with heap := w.heap.setIfInBounds m o } ∧ MapW { w with heap := w.heap.setIfInBounds m o } m (setW L n v) := by
 obtain ⟨es, c, hb, he⟩ := h;have h1 := MapKept.run_getObj_map (P := P) hb;have h2 := MapKept.run_checkKey (P := P) (w := w) hk (k := .int .u64 n) (by first | rfl | trivial | exact ⟨_, rfl⟩) false 9999
 rcases findW n es.toList L 0 he with ⟨f1, f2, f3⟩ | ⟨j, u, f1, fj, f2, _, f3⟩
 ·have h3 := MapKept.run_findKey (P := P) (w := w) hk f1
  have h4 := MapKept.run_setObj_map (P := P) (.map (es.push { key := .int .u64 n, val := v, born := c }) (c + 1)) hb;refine ⟨_, by simp [Instr.mapUpdate, run_underlying ht, h1, h2, h3, h4]; rfl, ?_⟩;refine ⟨_, _, (MapKept.heap_set hb).1, ?_⟩;unfold EntW at *;rw [f3, Array.toList_push, List.map_append, he, List.map_append]
  rfl
 ·have h3 := MapKept.run_findKey (P := P) (w := w) hk f1
  rw [Nat.zero_add] at h3
  have hke : ∀ e, es[j]? = some e → e.key = .int .u64 n := by
   intro e hej;have hl : L.length = es.toList.length := by have := congrArg List.length he; simpa using this.symm
   have h5 := f3 v;have e1 : (es.toList.map (fun e => (e.key, e.val)))[j]? = some (e.key, e.val) := by rw [List.getElem?_map, Array.getElem?_toList, hej]; rfl
   rw [he, List.getElem?_map] at e1;have hjL : j < L.length := by rw [hl]; exact fj
   rw [List.getElem?_eq_getElem hjL] at e1;simp only [Option.map_some, Option.some.injEq, Prod.mk.injEq] at e1
   have hn : L[j].1 = n := by
    have : ∀ (l : List MapEntry) (L : List (Int × Value)) (i j : Nat) (x : Value), EntW L l → Instr.findNow dW (.int .u64 n) l i = some (some (i + j, x)) → ∀ h : j < L.length, L[j].1 = n := by
     intro l
     induction l with
     | nil => intro L i j x _ hf; simp [Instr.findNow] at hf
     | cons a l ih =>
      intro L i j x hE hf hj
      cases L with
      | nil => cases hj
      | cons p L =>
       simp only [EntW, List.map_cons, List.cons.injEq, Prod.mk.injEq] at hE;simp only [Instr.findNow] at hf;rw [hE.1.1, same_W] at hf
       by_cases hp : n = p.1
       ·simp [hp] at hf
        obtain rfl : j = 0 := by omega
        exact hp.symm
       ·rw [show (n == p.1) = false from by simpa using hp] at hf
        simp only at hf
        cases j with
        | zero =>
         exfalso
         have hgt : ∀ (l : List MapEntry) (i : Nat) (r : Nat) (x : Value), Instr.findNow dW (.int .u64 n) l i = some (some (r, x)) → i ≤ r := by
          intro l
          induction l with
          | nil => intro i r x h; simp [Instr.findNow] at h
          | cons b l ih =>
           intro i r x h;simp only [Instr.findNow] at h
           split at h
           ·simp at h; omega
           ·have := ih _ _ _ h; omega
           ·cases h
         have := hgt l (i + 1) (i + 0) x hf;omega
        | succ j => exact ih L (i + 1) j x hE.2 (by rw [show i + 1 + j = i + (j + 1) from by omega]; exact hf) (by simpa using hj)
    exact this es.toList L 0 j _ he f1 hjL
   rw [← e1.1, hn]
  have h4 := MapKept.run_setObj_map (P := P) (.map (es.modify j fun e => { e with key := .int .u64 n, val := v }) c) hb
  have h6 : (Instr.keyThatStays (((es[j]?).map (·.key)).getD (.int .u64 n)) (.int .u64 n)).run P w = .ok (.int .u64 n) w := by
   have : ((es[j]?).map (·.key)).getD (.int .u64 n) = .int .u64 n := by
    cases hq : es[j]? with
    | none => rfl
    | some e => simp [hke e hq]
   rw [this];exact MapKept.run_keyThatStays (d := dW) (by first | rfl | trivial | exact ⟨_, rfl⟩)
  refine ⟨_, by simp [Instr.mapUpdate, run_underlying ht, h1, h2, h3, h6, h4]; rfl, ?_⟩;refine ⟨_, _, (MapKept.heap_set hb).1, ?_⟩;unfold EntW at *;rw [f3 v, List.map_set, ← he];apply List.ext_getElem?;intro i;rw [List.getElem?_map, Array.getElem?_toList, Array.getElem?_modify, List.getElem?_set]
  by_cases hij : j = i
  ·subst hij
   rw [if_pos rfl, if_pos rfl, if_pos (by simpa using fj)];have : j < es.size := by simpa using fj
   rw [Array.getElem?_eq_getElem this]
   rfl
  ·rw [if_neg hij, if_neg hij, List.getElem?_map, Array.getElem?_toList]
omit hk in
theorem lenW (h : MapW w m L) (ty : TypeId) : (Builtin.len_ #[t] ty #[.map (some m)]).run P w = .ok (.int .i64 (L.length : Int)) w := by
 obtain ⟨es, c, hb, he⟩ := h;have h1 := MapKept.run_getObj_map (P := P) hb;have hl : es.size = L.length := by have := congrArg List.length he; simpa using this
 simp [Builtin.len_, run_underlying ht, h1, goInt, hl]
theorem updateWB (h : MapW w m L) (n : Int) (v : Value) :
  ∃ w', (Instr.mapUpdate t (.map (some m)) (.int .u64 n) v).run P w = .ok () w' ∧ MapW w' m (setW L n v) ∧ Below m w w' ∧ w'.heap.size = w.heap.size ∧ Frm (fun x => x = m) w w' := by
 obtain ⟨o, h1, h2⟩ := updateW ht hk h n v;obtain ⟨es, c, hb, _⟩ := h;refine ⟨_, h1, h2, ⟨rfl, rfl, rfl, by simp, fun k hk => (MapKept.heap_set hb).2 k (Nat.ne_of_lt hk)⟩, by simp, (Frm.refl _ w).setObj m o (.inl rfl)⟩
end


structure MpR (L : List (Int × Value)) (E : List Ent) : Prop where
 nd : (L.map (·.1)).Nodup
 ge : ∀ k, getW L k = (getE k E).map Value.string
 so : SortE E
 ky : ∀ k ∈ keysE E, 0 ≤ k ∧ k ≤ 18446744073709551615
theorem MpR.start : MpR [] [] := ⟨List.nodup_nil, fun k => rfl, List.Pairwise.nil, fun k h => by simp [keysE] at h⟩
theorem MpR.put {L : List (Int × Value)} {E : List Ent} (h : MpR L E) {k : Int} (hk : 0 ≤ k ∧ k ≤ 18446744073709551615) (v : ByteArray) : MpR (setW L k (.string v)) (insE k v E) := by
 refine ⟨setW_nodup _ _ h.nd, fun x => ?_, sortE_ins h.so _ _, fun x hx => ?_⟩
 ·rw [getW_set, getE_ins]
  split
  ·rfl
  ·exact h.ge x
 ·rcases mem_insE.1 hx with rfl | hx
  ·exact hk
  ·exact h.ky x hx
theorem MpR.len {L : List (Int × Value)} {E : List Ent} (h : MpR L E) : L.length = E.length := by
 have hp : (L.map (·.1)).Perm (keysE E) := (List.perm_ext_iff_of_nodup h.nd (sortE_nodup h.so)).2 fun x => by
  rw [← getW_mem, ← getB_iff, h.ge x];unfold getB;rw [Option.isSome_map]
 have := hp.length_eq;unfold keysE at this
 simpa using this
theorem MpR.look {L : List (Int × Value)} {E : List Ent} (h : MpR L E) (k : Int) : (getW L k).getD (.string ByteArray.empty) = .string (getV k E) ∧ (getW L k).isSome = getB k E := by
 rw [h.ge k];unfold getV getB
 cases getE k E with
 | none => exact ⟨rfl, rfl⟩
 | some v => exact ⟨rfl, rfl⟩
theorem MpR.all {L : List (Int × Value)} {E : List Ent} (h : MpR L E) : scanE 0 E = E := List.filter_eq_self.2 fun e he => decide_eq_true (h.ky e.1 (mem_keysE.2 ⟨e.2, he⟩)).1
theorem MpR.at {L : List (Int × Value)} {E : List Ent} (h : MpR L E) {j : Nat} {k : Int} {v : ByteArray} (hj : E[j]? = some (k, v)) : getV k E = v := (getE_some ((getE_mem h.so).1 (List.mem_of_getElem? hj))).1
theorem zero_strD (w : World) : (zeroValue 9).run Tryz.prog w = .ok (.string ByteArray.empty) w := by kernel_rfl
theorem u16_lenD {w : World} {a : Option Addr} {len cap : Nat} {zs : List Int} (hk : IsInts .u16 w a len cap zs) : (len : Int) ≤ 9223372036854775807 := by
 rcases hk with ⟨_, rfl, _, _⟩ | ⟨_, _, h1, h2, _⟩
 ·decide
 ·unfold maxLen at h2; omega
theorem u16_cellD {w : World} {a : Option Addr} {len cap : Nat} {zs : List Int} (hk : IsInts .u16 w a len cap zs) (j : Nat) (hj : j < len) : ∃ (x : Addr) (z : Int), a = some x ∧ zs.getD j 0 = z ∧ (0 ≤ z ∧ z ≤ 65535) ∧ Hid (∀ wr, Below w.heap.size w wr → wr.cell? (x.add j) = some (.int .u16 z)) := by
 rcases hk with ⟨rfl, rfl, rfl, rfl⟩ | ⟨x, rfl, h1, h2, h3, h4, h5⟩
 ·omega
 ·have hjl : j < zs.length := by omega
  refine ⟨x, _, rfl, rfl, ?_, Hd fun wr hb => ?_⟩
  ·have hm : zs.getD j 0 ∈ zs := by
    rw [List.getD_eq_getElem?_getD, List.getElem?_eq_getElem hjl];exact List.getElem_mem hjl
   have hw := h5 _ hm;generalize zs.getD j 0 = z at hw ⊢;simp [Lit.wf] at hw;have e1 : IntKind.u16.min = 0 := by rfl
   have e2 : IntKind.u16.max = 65535 := by rfl
   omega
  ·have hc := h4 j hjl
   have hlt : (x.add j).block < w.heap.size := by
    unfold World.cell? at hc
    cases hq : w.heap[(x.add j).block]? with
    | none => rw [hq] at hc; simp at hc
    | some b => exact (Array.getElem?_eq_some_iff.1 hq).1
   exact (hb.cell hlt).trans hc
structure DrI (w1 w : World) (t m d s : Nat) (gn : Int) (E0 : List Ent) (U : ByteArray) (E : List Ent) (root : Int) (L : List (Int × Value)) : Prop where
 tr : TrK (hZ U) gn E0 w1 [t, m] w d s 300 root E
 tc : w.heap[t]? = some (txC s root 0 false)
 mp : MapW w m L
 lt : w1.heap.size ≤ t
 lm : w1.heap.size ≤ m
 ne : t ≠ m
theorem DrI.turned {w1 w w' : World} {t m d s : Nat} {gn : Int} {E0 : List Ent} {U : ByteArray} {E E' : List Ent} {root q : Int} {L : List (Int × Value)} (h : DrI w1 w t m d s gn E0 U E root L) (h1 : TrK (hZ U) gn E0 w1 [t, m] w' d s 300 q E') (h2 : w'.heap[t]? = some (txC s q 0 false)) (h3 : ∀ k ∈ [m], k ≠ t → w'.heap[k]? = w.heap[k]?) : DrI w1 w' t m d s gn E0 U E' q L :=
 ⟨h1, h2, h.mp.kept (h3 m (by simp) (Ne.symm h.ne)), h.lt, h.lm, h.ne⟩
theorem DrI.mapped {w1 w wc : World} {t m d s : Nat} {gn : Int} {E0 : List Ent} {U : ByteArray} {E : List Ent} {root : Int} {L L' : List (Int × Value)} (h : DrI w1 w t m d s gn E0 U E root L) (hm : MapW wc m L') (f : Frm (fun k => k = m) w wc) : DrI w1 wc t m d s gn E0 U E root L' :=
 ⟨h.tr.turn (by simp) h.lm f, (f.block t (h.tr.lt t (by simp)) h.ne).trans h.tc, hm, h.lt, h.lm, h.ne⟩
theorem txnDrops_true (a : Option Addr) (len cap : Nat) (zs : List Int) (a' : Option Addr) (len' cap' : Nat) (zs' : List Int) (w : World) (hk : IsInts .u16 w a len cap zs) (hk' : IsInts .u16 w a' len' cap' zs') :
  Calls Tryz.prog 9 #[.slice a len cap, .slice a' len' cap', .bool true] w fun e w' => e = .returned (.bool true) ∧ Below w.heap.size w w' := by
 have MD := Hd fun w => made_K w 300 (by decide) (by decide)
 obtain ⟨X1, hX1⟩ : ∃ X : ByteArray, (⟨#[111, 110, 101]⟩ : ByteArray) = X := ⟨_, rfl⟩
 obtain ⟨X2, hX2⟩ : ∃ X : ByteArray, (⟨#[116, 119, 111]⟩ : ByteArray) = X := ⟨_, rfl⟩
 have HX1 : Hid (X1.size ≤ 40) := Hd (by rw [← hX1]; decide);have HX2 : Hid (X2.size ≤ 40) := Hd (by rw [← hX2]; decide);have CELLS := Hd (u16_cellD hk);have CELLS' := Hd (u16_cellD hk');have hlenL : (len : Int) ≤ 9223372036854775807 := u16_lenD hk;have hlenL' : (len' : Int) ≤ 9223372036854775807 := u16_lenD hk';clear hk hk';go_enter Tryz.func9, Tryz.ntmps9;try simp only [List.append_eq, List.cons_append, List.nil_append]
 go_wp2_with fail;refine (examples_yes12 _).mono ?_;rintro e w1 ⟨rfl, b1⟩;have B1 := Hd b1;clear b1;go_wp2_with fail;refine (MD.out _).mono ?_;rintro e w2 ⟨d, s, U0, rfl, h1⟩;have sn := ptr_nilS ⟨s, 0, none⟩;have hmm : (Instr.makeMap 27 none).run Tryz.prog w2 = .ok (.map (some w2.heap.size)) (w2.alloc (.map #[] 0)) := by simp [Instr.makeMap]
 obtain ⟨m, hm⟩ : ∃ m, w2.heap.size = m := ⟨_, rfl⟩
 obtain ⟨w3, hw3⟩ : ∃ w3, w2.alloc (.map #[] 0) = w3 := ⟨_, rfl⟩
 have hb3 : Below w2.heap.size w2 w3 := by rw [← hw3]; exact below_made _ _
 have HM0 : Hid (MapW w3 m []) := Hd ⟨#[], 0, by rw [← hw3, ← hm]; exact heap_alloc_new _ _, rfl⟩;have HST := Hd (h1.more hb3 m (by omega) (by rw [← hw3, ← hm]; simp));have HML : Hid (w1.heap.size ≤ m) := Hd (by have := h1.size.size; omega);have BG := Hd (begin_S HST.out);rw [hw3, hm] at hmm;clear h1 MD hw3 hm hb3;go_wp2_with fail;refine BG.out.mono ?_;rintro e w4 ⟨t, root0, rfl, h1, h2, h3, h4⟩;have HI0 := Hd (show DrI w1 w4 t m d s 1 [] U0 [] root0 [] from ⟨h1.hz, h2, HM0.out.kept (h4 m (by simp)), Nat.le_trans HST.out.size.size h3, HML.out, by have := HST.out.lt m (by simp); omega⟩)
 clear h1 h2 h3 h4 BG HST HM0
 go_upto_block 0 with fail
 go_cut [12] (fun _ wc => ∃ (E : List Ent) (root : Int) (L : List (Int × Value)), Hid (E.length ≤ 20) ∧ Hid (MpR L E) ∧ Hid (DrI w1 wc t m d s 1 [] U0 E root L))
 case first =>
  go_wp2_with fail
  go_loopw [12] (fun i wr => ∃ (j : Nat) (E : List Ent) (root : Int) (L : List (Int × Value)), j ≤ len ∧ j ≤ 20 ∧ i = .int .i64 (j : Int) ∧ Hid (E.length ≤ j) ∧ Hid (MpR L E) ∧ Hid (DrI w1 wr t m d s 1 [] U0 E root L)) (fun i _ => 21 - (intOf i).toNat)
  case atStart => exact ⟨0, [], root0, [], Nat.zero_le _, Nat.zero_le _, rfl, Hd (Nat.le_refl _), Hd MpR.start, HI0⟩
  case round =>
   obtain ⟨j, E, root, L, hj1, hj2, rfl, HLN, HR, HI⟩ := hrel
   by_cases hjl : j < len
   ·have hjli : (j : Int) < (len : Int) := by omega
    by_cases hlt : j < 20
    ·have hli : (j : Int) < 20 := by omega
     obtain ⟨x, z, hax, _, hz, CELL⟩ := CELLS.out j hjl;subst hax;have ez : IntKind.u64.wrap z = z := IntWalk.u64_in _ (by omega);have HZK : Hid (0 ≤ z ∧ z ≤ 18446744073709551615) := Hd (by omega);have HJL : Hid (j + 1 ≤ len ∧ j + 1 ≤ 20) := Hd ⟨by omega, by omega⟩;have e4 : IntKind.i64.wrap ((j : Int) + 1) = ((j + 1 : Nat) : Int) := by rw [show (j : Int) + 1 = ((j + 1 : Nat) : Int) by omega]; exact IntWalk.i64_in _ (by omega)
     have ca := CELL.out wr (chain B1.out HI.out.tr.size);have PU := Hd (put_TK (key := z) (val := X1) HI.out.tr HI.out.tc HI.out.lt 5 (by decide) (by have := HLN.out; simp; omega) (by have := HLN.out; simp; omega) HZK.out HX1.out);clear hj1 hj2 hjl hlt hz;go_wp2_with fail;refine PU.out.mono ?_;rintro e w6 ⟨rfl, q, h1, h2, h3⟩;have OW := Hd (HI.out.turned h1 h2 h3);have LEN : Hid ((insE z X1 E).length ≤ j + 1) := Hd (by have := HLN.out; have := insE_len z X1 E; omega);clear h1 h2 h3 PU ca;have ca := CELL.out w6 (chain B1.out OW.out.tr.size)
     obtain ⟨wc, hmu, hmp, _, _, hmf⟩ := updateWB (P := Tryz.prog) Tryz.underlying27 Tryz.underlying28 OW.out.mp z (.string X1);have FIN := Hd (OW.out.mapped hmp hmf);clear hmp hmf OW;go_wp2_with fail;go_roundw
     case rel => exact ⟨j + 1, _, _, _, HJL.out.1, HJL.out.2, rfl, LEN, Hd (HR.out.put HZK.out X1), FIN⟩
     case measure => have := HJL.out; simp [intOf]; omega
    ·have hli : ¬ (j : Int) < 20 := by omega
     go_wp2_with fail
     go_meet
     exact ⟨E, root, L, Hd (by have := HLN.out; omega), HR, HI⟩
   ·have hjli : ¬ (j : Int) < (len : Int) := by omega
    go_wp2_with fail
    go_meet
    exact ⟨E, root, L, Hd (by have := HLN.out; omega), HR, HI⟩
 case rest =>
  obtain ⟨E1, root1, L1, HE1, HR1, HI1⟩ := hcut;have CM1 := Hd (commit_TK HI1.out.tr HI1.out.tc HI1.out.lt (by decide));clear CELLS hlenL HI0;go_wp2_with fail;refine CM1.out.mono ?_;rintro e w5 ⟨rfl, ⟨U1, h1⟩, h2⟩;have HS1 := Hd (h1.sub (R' := [m]) (fun k hk => by simp only [List.mem_cons, List.not_mem_nil, or_false] at hk ⊢; simp [hk]));have HM1 := Hd (HI1.out.mp.kept (h2 m (by simp) (Ne.symm HI1.out.ne)));have B2 := Hd (begin_S HS1.out);clear h1 h2 CM1 HI1;go_wp2_with fail;refine B2.out.mono ?_;rintro e w6 ⟨t2, root2, rfl, h1, h2, h3, h4⟩
  have HI2 := Hd (show DrI w1 w6 t2 m d s 2 E1 U1 E1 root2 L1 from ⟨h1.hz, h2, HM1.out.kept (h4 m (by simp)), Nat.le_trans HS1.out.size.size h3, HML.out, by have := HS1.out.lt m (by simp); omega⟩);clear h1 h2 h3 h4 B2 HS1 HM1
  go_upto_block 2 with fail
  go_cut [14] (fun _ wc => ∃ (E : List Ent) (root : Int) (L : List (Int × Value)), Hid (E.length ≤ E1.length + 20) ∧ Hid (MpR L E) ∧ Hid (DrI w1 wc t2 m d s 2 E1 U1 E root L))
  case first =>
   go_wp2_with fail
   go_loopw [14] (fun i wr => ∃ (j : Nat) (E : List Ent) (root : Int) (L : List (Int × Value)), j ≤ len' ∧ j ≤ 20 ∧ i = .int .i64 (j : Int) ∧ Hid (E.length ≤ E1.length + j) ∧ Hid (MpR L E) ∧ Hid (DrI w1 wr t2 m d s 2 E1 U1 E root L)) (fun i _ => 21 - (intOf i).toNat)
   case atStart => exact ⟨0, E1, root2, L1, Nat.zero_le _, Nat.zero_le _, rfl, Hd (Nat.le_refl _), HR1, HI2⟩
   case round =>
    obtain ⟨j, E, root, L, hj1, hj2, rfl, HLN, HR, HI⟩ := hrel;have hE1 := HE1.out
    by_cases hjl : j < len'
    ·have hjli : (j : Int) < (len' : Int) := by omega
     by_cases hlt : j < 20
     ·have hli : (j : Int) < 20 := by omega
      obtain ⟨x, z, hax, _, hz, CELL⟩ := CELLS'.out j hjl;subst hax;have ez : IntKind.u64.wrap z = z := IntWalk.u64_in _ (by omega);have HZK : Hid (0 ≤ z ∧ z ≤ 18446744073709551615) := Hd (by omega);have HJL : Hid (j + 1 ≤ len' ∧ j + 1 ≤ 20) := Hd ⟨by omega, by omega⟩;have e4 : IntKind.i64.wrap ((j : Int) + 1) = ((j + 1 : Nat) : Int) := by rw [show (j : Int) + 1 = ((j + 1 : Nat) : Int) by omega]; exact IntWalk.i64_in _ (by omega)
      have ca := CELL.out wr (chain B1.out HI.out.tr.size);have PU := Hd (put_TK (key := z) (val := X2) HI.out.tr HI.out.tc HI.out.lt 5 (by decide) (by have := HLN.out; omega) (by have := HLN.out; omega) HZK.out HX2.out);clear hj1 hj2 hjl hlt hz hE1;go_wp2_with fail;refine PU.out.mono ?_;rintro e w6 ⟨rfl, q, h1, h2, h3⟩;have OW := Hd (HI.out.turned h1 h2 h3);have LEN : Hid ((insE z X2 E).length ≤ E1.length + (j + 1)) := Hd (by have := HLN.out; have := insE_len z X2 E; omega);clear h1 h2 h3 PU ca;have ca := CELL.out w6 (chain B1.out OW.out.tr.size)
      obtain ⟨wc, hmu, hmp, _, _, hmf⟩ := updateWB (P := Tryz.prog) Tryz.underlying27 Tryz.underlying28 OW.out.mp z (.string X2);have FIN := Hd (OW.out.mapped hmp hmf);clear hmp hmf OW;go_wp2_with fail;go_roundw
      case rel => exact ⟨j + 1, _, _, _, HJL.out.1, HJL.out.2, rfl, LEN, Hd (HR.out.put HZK.out X2), FIN⟩
      case measure => have := HJL.out; simp [intOf]; omega
     ·have hli : ¬ (j : Int) < 20 := by omega
      go_wp2_with fail
      go_meet
      exact ⟨E, root, L, Hd (by have := HLN.out; omega), HR, HI⟩
    ·have hjli : ¬ (j : Int) < (len' : Int) := by omega
     go_wp2_with fail
     go_meet
     exact ⟨E, root, L, Hd (by have := HLN.out; omega), HR, HI⟩
  case rest =>
   obtain ⟨E, root, L, HLN, HR, HI⟩ := hcut;clear CELLS' hlenL' HI2;have CM := Hd (commit_TK HI.out.tr HI.out.tc HI.out.lt (by decide));have HRF := HR;have HF40 : Hid (E.length ≤ 40) := Hd (by have := HLN.out; have := HE1.out; omega);go_wp2_with fail;refine CM.out.mono ?_;rintro e w9 ⟨rfl, ⟨UF, h1⟩, h2⟩;have HS := Hd (h1.sub (R' := [m]) (fun k hk => by simp only [List.mem_cons, List.not_mem_nil, or_false] at hk ⊢; simp [hk]));have HM := Hd (HI.out.mp.kept (h2 m (by simp) (Ne.symm HI.out.ne)));clear h1 h2 CM HI HR HLN;have LS := Hd (left_S HS.out)
   obtain ⟨LV, hLV⟩ : ∃ LV, leftU 300 UF = LV := ⟨_, rfl⟩
   rw [hLV] at LS;have HLV := Hd hLV;have hvv : (LV != LV) = false := by simp
   clear hLV;go_wp2_with fail;refine LS.out.mono ?_;rintro e wa ⟨rfl, ba⟩;have HSa := Hd (HS.out.below ba);have HMa := Hd (HM.out.below ba);clear ba HS HM LS;have MT := Hd (mount_S HSa.out);go_wp2_with fail;refine MT.out.mono ?_;rintro e wb ⟨s2, rfl, h1, h2⟩;have HSb := Hd h1;have HMb := Hd (HMa.out.kept (h2 m (by simp)));have sn2 := ptr_nilS ⟨s2, 0, none⟩;clear h1 h2 HSa HMa MT;have B3 := Hd (begin_S HSb.out);go_wp2_with fail;refine B3.out.mono ?_;rintro e wc ⟨t3, root3, rfl, h1, h2, h3, h4⟩;have HMc := Hd (HMb.out.kept (h4 m (by simp)))
   have SC := Hd (scan_TK (key := 0) (most := 1000) h1 h2 (Nat.le_trans HSb.out.size.size h3) (by have := HF40.out; omega) E (by rw [HRF.out.all]; exact List.take_of_length_le (Nat.le_trans HF40.out (by decide))));have HT3 : Hid (∀ k ∈ [m], k ≠ t3) := Hd (fun k hk e => by have := HSb.out.lt k (by simpa using hk); omega);clear h1 h2 h3 h4 HMb HSb B3;go_wp2_with fail;refine SC.out.mono ?_;rintro e wd ⟨v, rfl, h1, h2, h3, h4, h5⟩;obtain ⟨va, vc, rfl⟩ := h3.shape;have ROW0 := Hd h3;have MP0 := Hd (HMc.out.kept (h4 m (by simp) (HT3.out m (by simp))));have LF0 := left_K h1;rw [HLV.out] at LF0
   have LF := Hd LF0;have hln := lenW (P := Tryz.prog) Tryz.underlying27 MP0.out 3;rw [HRF.out.len] at hln;have hll : ((E.length : Int) != (E.length : Int)) = false := by simp
   have BLd := Hd h1.size;clear h1 h2 h3 h4 h5 SC HMc LF0;go_wp2_with fail;refine LF.out.mono ?_;rintro e we ⟨rfl, be⟩;have ROWA := Hd (ROW0.out.below be);have MPL := Hd (MP0.out.below be);have BL := Hd (chain BLd.out be);clear be ROW0 MP0 LF hln BLd;obtain ⟨wL, hwL⟩ : ∃ wL, wL = we := ⟨_, rfl⟩
   subst hwL;go_wp2_with fail
   go_loopw [20] (fun i wr => ∃ j : Nat, i = .int .i64 (j : Int) ∧ j ≤ E.length ∧ Hid (Below wL.heap.size wL wr)) (fun i _ => E.length - (intOf i).toNat)
   case atStart => exact ⟨0, rfl, Nat.zero_le _, Hd Br⟩
   case round =>
    obtain ⟨j, rfl, hj, HBr⟩ := hrel
    by_cases hlt : j < E.length
    ·have hli : (j : Int) < (E.length : Int) := by omega
     obtain ⟨⟨ek, ev⟩, he⟩ : ∃ e, E[j]? = some e := ⟨_, List.getElem?_eq_getElem hlt⟩
     obtain ⟨g1, hg1, hg2, k1, k2⟩ := (ROWA.out.below HBr.out).at he;subst hg1
     have LK : Hid (∀ w', Below wr.heap.size wr w' → (Instr.lookup 27 (.map (some m)) (.int .u64 ek) false).run Tryz.prog w' = .ok (.string ev) w') := Hd (fun w' hb => by
      have hlk := lookupW (P := Tryz.prog) Tryz.underlying27 Tryz.underlying28 ((MPL.out.below HBr.out).below hb) ek (.string ByteArray.empty) (zero_strD w') false;rw [(HRF.out.look _).1, HRF.out.at he, if_neg (by decide)] at hlk;exact hlk)
     have GLT := Hd hg2;have K1 := Hd k1;have K2 := Hd k2;have HJ : Hid (j + 1 ≤ E.length ∧ E.length ≤ 40) := Hd ⟨by omega, HF40.out⟩;have e4 : IntKind.i64.wrap ((j : Int) + 1) = ((j + 1 : Nat) : Int) := by have := HJ.out; rw [show (j : Int) + 1 = ((j + 1 : Nat) : Int) by omega]; exact IntWalk.i64_in _ (by omega)
     clear he hg2 k1 k2 hj hlt;go_upto_region 38 with fail
     refine wp_region_held_drew (S := fun w' => Below wr.heap.size wr w') (by kernel_rfl) Br.drew (fun hS => ?_);refine Hu 0 124 hS ?_;simp only [SL];refine Hu 1 125 hS ?_;simp only [SL];refine Hu 2 126 hS ?_;simp only [SL];refine Hu 3 127 hS ?_;simp only [SL];refine Hu 4 128 hS ?_;simp only [SL];refine Hv 5 129 ?vt5x6 hS ?ht5x6 ?_
     case ht5x6 =>
      intro w9 s9;have k9 := (cell_as (i := j * 2) (s9.block g1 GLT.out)).trans K1.out;clear s9;go_simp;try (with_reducible rfl)
     simp only [SL];refine Hv 6 130 ?vt6x7 hS ?ht6x7 ?_
     case ht6x7 =>
      intro w9 s9;have hlk9 := LK.out w9 s9;clear s9;go_simp;try (with_reducible rfl)
     simp only [SL];refine Hu 7 131 hS ?_;simp only [SL];refine Hu 8 132 hS ?_;simp only [SL];refine Hu 9 133 hS ?_;simp only [SL];refine Hu 10 134 hS ?_;simp only [SL];refine Hv 11 135 ?vt11x12 hS ?ht11x12 ?_
     case ht11x12 =>
      intro w9 s9;have k9 := (cell_as (i := j * 2 + 1) (s9.block g1 GLT.out)).trans K2.out;clear s9;go_simp;try (with_reducible rfl)
     simp only [SL];refine Hu 12 136 hS ?_;simp only [SL];refine wpAnyH_done (by kernel_rfl) ?_ _;have HQ := Hd (chain HBr.out hS);clear hS;go_wp2_with fail;go_roundw
     case rel => exact ⟨j + 1, rfl, HJ.out.1, HQ⟩
     case measure => have := HJ.out; simp [intOf]; omega
    ·have hli : ¬ (j : Int) < (E.length : Int) := by omega
     have BF := Hd (chain BL.out HBr.out);clear hlt hj;go_wp2_with fail;go_ret;exact ⟨rfl, chain B1.out BF.out⟩
theorem txnDrops_false (a : Option Addr) (len cap : Nat) (zs : List Int) (a' : Option Addr) (len' cap' : Nat) (zs' : List Int) (w : World) (hk : IsInts .u16 w a len cap zs) (hk' : IsInts .u16 w a' len' cap' zs') :
  Calls Tryz.prog 9 #[.slice a len cap, .slice a' len' cap', .bool false] w fun e w' => e = .returned (.bool true) ∧ Below w.heap.size w w' := by
 have MD := Hd fun w => made_K w 300 (by decide) (by decide)
 obtain ⟨X1, hX1⟩ : ∃ X : ByteArray, (⟨#[111, 110, 101]⟩ : ByteArray) = X := ⟨_, rfl⟩
 obtain ⟨X2, hX2⟩ : ∃ X : ByteArray, (⟨#[116, 119, 111]⟩ : ByteArray) = X := ⟨_, rfl⟩
 have HX1 : Hid (X1.size ≤ 40) := Hd (by rw [← hX1]; decide);have HX2 : Hid (X2.size ≤ 40) := Hd (by rw [← hX2]; decide);have CELLS := Hd (u16_cellD hk);have CELLS' := Hd (u16_cellD hk');have hlenL : (len : Int) ≤ 9223372036854775807 := u16_lenD hk;have hlenL' : (len' : Int) ≤ 9223372036854775807 := u16_lenD hk';clear hk hk';go_enter Tryz.func9, Tryz.ntmps9;try simp only [List.append_eq, List.cons_append, List.nil_append]
 go_wp2_with fail;refine (examples_yes12 _).mono ?_;rintro e w1 ⟨rfl, b1⟩;have B1 := Hd b1;clear b1;go_wp2_with fail;refine (MD.out _).mono ?_;rintro e w2 ⟨d, s, U0, rfl, h1⟩;have sn := ptr_nilS ⟨s, 0, none⟩;have hmm : (Instr.makeMap 27 none).run Tryz.prog w2 = .ok (.map (some w2.heap.size)) (w2.alloc (.map #[] 0)) := by simp [Instr.makeMap]
 obtain ⟨m, hm⟩ : ∃ m, w2.heap.size = m := ⟨_, rfl⟩
 obtain ⟨w3, hw3⟩ : ∃ w3, w2.alloc (.map #[] 0) = w3 := ⟨_, rfl⟩
 have hb3 : Below w2.heap.size w2 w3 := by rw [← hw3]; exact below_made _ _
 have HM0 : Hid (MapW w3 m []) := Hd ⟨#[], 0, by rw [← hw3, ← hm]; exact heap_alloc_new _ _, rfl⟩;have HST := Hd (h1.more hb3 m (by omega) (by rw [← hw3, ← hm]; simp));have HML : Hid (w1.heap.size ≤ m) := Hd (by have := h1.size.size; omega);have BG := Hd (begin_S HST.out);rw [hw3, hm] at hmm;clear h1 MD hw3 hm hb3;go_wp2_with fail;refine BG.out.mono ?_;rintro e w4 ⟨t, root0, rfl, h1, h2, h3, h4⟩;have HI0 := Hd (show DrI w1 w4 t m d s 1 [] U0 [] root0 [] from ⟨h1.hz, h2, HM0.out.kept (h4 m (by simp)), Nat.le_trans HST.out.size.size h3, HML.out, by have := HST.out.lt m (by simp); omega⟩)
 clear h1 h2 h3 h4 BG HST HM0
 go_upto_block 0 with fail
 go_cut [12] (fun _ wc => ∃ (E : List Ent) (root : Int) (L : List (Int × Value)), Hid (E.length ≤ 20) ∧ Hid (MpR L E) ∧ Hid (DrI w1 wc t m d s 1 [] U0 E root L))
 case first =>
  go_wp2_with fail
  go_loopw [12] (fun i wr => ∃ (j : Nat) (E : List Ent) (root : Int) (L : List (Int × Value)), j ≤ len ∧ j ≤ 20 ∧ i = .int .i64 (j : Int) ∧ Hid (E.length ≤ j) ∧ Hid (MpR L E) ∧ Hid (DrI w1 wr t m d s 1 [] U0 E root L)) (fun i _ => 21 - (intOf i).toNat)
  case atStart => exact ⟨0, [], root0, [], Nat.zero_le _, Nat.zero_le _, rfl, Hd (Nat.le_refl _), Hd MpR.start, HI0⟩
  case round =>
   obtain ⟨j, E, root, L, hj1, hj2, rfl, HLN, HR, HI⟩ := hrel
   by_cases hjl : j < len
   ·have hjli : (j : Int) < (len : Int) := by omega
    by_cases hlt : j < 20
    ·have hli : (j : Int) < 20 := by omega
     obtain ⟨x, z, hax, _, hz, CELL⟩ := CELLS.out j hjl;subst hax;have ez : IntKind.u64.wrap z = z := IntWalk.u64_in _ (by omega);have HZK : Hid (0 ≤ z ∧ z ≤ 18446744073709551615) := Hd (by omega);have HJL : Hid (j + 1 ≤ len ∧ j + 1 ≤ 20) := Hd ⟨by omega, by omega⟩;have e4 : IntKind.i64.wrap ((j : Int) + 1) = ((j + 1 : Nat) : Int) := by rw [show (j : Int) + 1 = ((j + 1 : Nat) : Int) by omega]; exact IntWalk.i64_in _ (by omega)
     have ca := CELL.out wr (chain B1.out HI.out.tr.size);have PU := Hd (put_TK (key := z) (val := X1) HI.out.tr HI.out.tc HI.out.lt 5 (by decide) (by have := HLN.out; simp; omega) (by have := HLN.out; simp; omega) HZK.out HX1.out);clear hj1 hj2 hjl hlt hz;go_wp2_with fail;refine PU.out.mono ?_;rintro e w6 ⟨rfl, q, h1, h2, h3⟩;have OW := Hd (HI.out.turned h1 h2 h3);have LEN : Hid ((insE z X1 E).length ≤ j + 1) := Hd (by have := HLN.out; have := insE_len z X1 E; omega);clear h1 h2 h3 PU ca;have ca := CELL.out w6 (chain B1.out OW.out.tr.size)
     obtain ⟨wc, hmu, hmp, _, _, hmf⟩ := updateWB (P := Tryz.prog) Tryz.underlying27 Tryz.underlying28 OW.out.mp z (.string X1);have FIN := Hd (OW.out.mapped hmp hmf);clear hmp hmf OW;go_wp2_with fail;go_roundw
     case rel => exact ⟨j + 1, _, _, _, HJL.out.1, HJL.out.2, rfl, LEN, Hd (HR.out.put HZK.out X1), FIN⟩
     case measure => have := HJL.out; simp [intOf]; omega
    ·have hli : ¬ (j : Int) < 20 := by omega
     go_wp2_with fail
     go_meet
     exact ⟨E, root, L, Hd (by have := HLN.out; omega), HR, HI⟩
   ·have hjli : ¬ (j : Int) < (len : Int) := by omega
    go_wp2_with fail
    go_meet
    exact ⟨E, root, L, Hd (by have := HLN.out; omega), HR, HI⟩
 case rest =>
  obtain ⟨E1, root1, L1, HE1, HR1, HI1⟩ := hcut;have CM1 := Hd (commit_TK HI1.out.tr HI1.out.tc HI1.out.lt (by decide));clear CELLS hlenL HI0;go_wp2_with fail;refine CM1.out.mono ?_;rintro e w5 ⟨rfl, ⟨U1, h1⟩, h2⟩;have HS1 := Hd (h1.sub (R' := [m]) (fun k hk => by simp only [List.mem_cons, List.not_mem_nil, or_false] at hk ⊢; simp [hk]));have HM1 := Hd (HI1.out.mp.kept (h2 m (by simp) (Ne.symm HI1.out.ne)));have B2 := Hd (begin_S HS1.out);clear h1 h2 CM1 HI1;go_wp2_with fail;refine B2.out.mono ?_;rintro e w6 ⟨t2, root2, rfl, h1, h2, h3, h4⟩
  have HI2 := Hd (show DrI w1 w6 t2 m d s 2 E1 U1 E1 root2 L1 from ⟨h1.hz, h2, HM1.out.kept (h4 m (by simp)), Nat.le_trans HS1.out.size.size h3, HML.out, by have := HS1.out.lt m (by simp); omega⟩);clear h1 h2 h3 h4 B2 HS1 HM1
  go_upto_block 2 with fail
  go_cut [14] (fun _ wc => ∃ (E : List Ent) (root : Int) (L : List (Int × Value)), Hid (E.length ≤ E1.length + 20) ∧ Hid (MpR L E1) ∧ Hid (DrI w1 wc t2 m d s 2 E1 U1 E root L))
  case first =>
   go_wp2_with fail
   go_loopw [14] (fun i wr => ∃ (j : Nat) (E : List Ent) (root : Int) (L : List (Int × Value)), j ≤ len' ∧ j ≤ 20 ∧ i = .int .i64 (j : Int) ∧ Hid (E.length ≤ E1.length + j) ∧ Hid (MpR L E1) ∧ Hid (DrI w1 wr t2 m d s 2 E1 U1 E root L)) (fun i _ => 21 - (intOf i).toNat)
   case atStart => exact ⟨0, E1, root2, L1, Nat.zero_le _, Nat.zero_le _, rfl, Hd (Nat.le_refl _), HR1, HI2⟩
   case round =>
    obtain ⟨j, E, root, L, hj1, hj2, rfl, HLN, HR, HI⟩ := hrel;have hE1 := HE1.out
    by_cases hjl : j < len'
    ·have hjli : (j : Int) < (len' : Int) := by omega
     by_cases hlt : j < 20
     ·have hli : (j : Int) < 20 := by omega
      obtain ⟨x, z, hax, _, hz, CELL⟩ := CELLS'.out j hjl;subst hax;have ez : IntKind.u64.wrap z = z := IntWalk.u64_in _ (by omega);have HZK : Hid (0 ≤ z ∧ z ≤ 18446744073709551615) := Hd (by omega);have HJL : Hid (j + 1 ≤ len' ∧ j + 1 ≤ 20) := Hd ⟨by omega, by omega⟩;have e4 : IntKind.i64.wrap ((j : Int) + 1) = ((j + 1 : Nat) : Int) := by rw [show (j : Int) + 1 = ((j + 1 : Nat) : Int) by omega]; exact IntWalk.i64_in _ (by omega)
      have ca := CELL.out wr (chain B1.out HI.out.tr.size);have PU := Hd (put_TK (key := z) (val := X2) HI.out.tr HI.out.tc HI.out.lt 5 (by decide) (by have := HLN.out; omega) (by have := HLN.out; omega) HZK.out HX2.out);clear hj1 hj2 hjl hlt hz hE1;go_wp2_with fail;refine PU.out.mono ?_;rintro e w6 ⟨rfl, q, h1, h2, h3⟩;have OW := Hd (HI.out.turned h1 h2 h3);have LEN : Hid ((insE z X2 E).length ≤ E1.length + (j + 1)) := Hd (by have := HLN.out; have := insE_len z X2 E; omega);clear h1 h2 h3 PU ca;go_wp2_with fail;go_roundw
      case rel => exact ⟨j + 1, _, _, _, HJL.out.1, HJL.out.2, rfl, LEN, HR, OW⟩
      case measure => have := HJL.out; simp [intOf]; omega
     ·have hli : ¬ (j : Int) < 20 := by omega
      go_wp2_with fail
      go_meet
      exact ⟨E, root, L, Hd (by have := HLN.out; omega), HR, HI⟩
    ·have hjli : ¬ (j : Int) < (len' : Int) := by omega
     go_wp2_with fail
     go_meet
     exact ⟨E, root, L, Hd (by have := HLN.out; omega), HR, HI⟩
  case rest =>
   obtain ⟨E, root, L, HLN, HR, HI⟩ := hcut;clear CELLS' hlenL' HI2;have CM := Hd (drop_TK HI.out.tr HI.out.tc HI.out.lt);have HRF := HR;have HF40 : Hid (E1.length ≤ 40) := Hd (by have := HE1.out; omega);go_wp2_with fail;refine CM.out.mono ?_;rintro e w9 ⟨rfl, h1, _, h2⟩;have HS := Hd (h1.sub (R' := [m]) (fun k hk => by simp only [List.mem_cons, List.not_mem_nil, or_false] at hk ⊢; simp [hk]));have HM := Hd (HI.out.mp.kept (h2 m (by simp) (Ne.symm HI.out.ne)));clear h1 h2 CM HI HR HLN;have LS := Hd (left_S HS.out);obtain ⟨LV, hLV⟩ : ∃ LV, leftU 300 U1 = LV := ⟨_, rfl⟩
   rw [hLV] at LS;have HLV := Hd hLV;have hvv : (LV != LV) = false := by simp
   clear hLV;go_wp2_with fail;refine LS.out.mono ?_;rintro e wa ⟨rfl, ba⟩;have HSa := Hd (HS.out.below ba);have HMa := Hd (HM.out.below ba);clear ba HS HM LS;have MT := Hd (mount_S HSa.out);go_wp2_with fail;refine MT.out.mono ?_;rintro e wb ⟨s2, rfl, h1, h2⟩;have HSb := Hd h1;have HMb := Hd (HMa.out.kept (h2 m (by simp)));have sn2 := ptr_nilS ⟨s2, 0, none⟩;clear h1 h2 HSa HMa MT;have B3 := Hd (begin_S HSb.out);go_wp2_with fail;refine B3.out.mono ?_;rintro e wc ⟨t3, root3, rfl, h1, h2, h3, h4⟩;have HMc := Hd (HMb.out.kept (h4 m (by simp)))
   have SC := Hd (scan_TK (key := 0) (most := 1000) h1 h2 (Nat.le_trans HSb.out.size.size h3) (by have := HF40.out; omega) E1 (by rw [HRF.out.all]; exact List.take_of_length_le (Nat.le_trans HF40.out (by decide))));have HT3 : Hid (∀ k ∈ [m], k ≠ t3) := Hd (fun k hk e => by have := HSb.out.lt k (by simpa using hk); omega);clear h1 h2 h3 h4 HMb HSb B3;go_wp2_with fail;refine SC.out.mono ?_;rintro e wd ⟨v, rfl, h1, h2, h3, h4, h5⟩;obtain ⟨va, vc, rfl⟩ := h3.shape;have ROW0 := Hd h3;have MP0 := Hd (HMc.out.kept (h4 m (by simp) (HT3.out m (by simp))));have LF0 := left_K h1;rw [HLV.out] at LF0
   have LF := Hd LF0;have hln := lenW (P := Tryz.prog) Tryz.underlying27 MP0.out 3;rw [HRF.out.len] at hln;have hll : ((E1.length : Int) != (E1.length : Int)) = false := by simp
   have BLd := Hd h1.size;clear h1 h2 h3 h4 h5 SC HMc LF0;go_wp2_with fail;refine LF.out.mono ?_;rintro e we ⟨rfl, be⟩;have ROWA := Hd (ROW0.out.below be);have MPL := Hd (MP0.out.below be);have BL := Hd (chain BLd.out be);clear be ROW0 MP0 LF hln BLd;obtain ⟨wL, hwL⟩ : ∃ wL, wL = we := ⟨_, rfl⟩
   subst hwL;go_wp2_with fail
   go_loopw [20] (fun i wr => ∃ j : Nat, i = .int .i64 (j : Int) ∧ j ≤ E1.length ∧ Hid (Below wL.heap.size wL wr)) (fun i _ => E1.length - (intOf i).toNat)
   case atStart => exact ⟨0, rfl, Nat.zero_le _, Hd Br⟩
   case round =>
    obtain ⟨j, rfl, hj, HBr⟩ := hrel
    by_cases hlt : j < E1.length
    ·have hli : (j : Int) < (E1.length : Int) := by omega
     obtain ⟨⟨ek, ev⟩, he⟩ : ∃ e, E1[j]? = some e := ⟨_, List.getElem?_eq_getElem hlt⟩
     obtain ⟨g1, hg1, hg2, k1, k2⟩ := (ROWA.out.below HBr.out).at he;subst hg1
     have LK : Hid (∀ w', Below wr.heap.size wr w' → (Instr.lookup 27 (.map (some m)) (.int .u64 ek) false).run Tryz.prog w' = .ok (.string ev) w') := Hd (fun w' hb => by
      have hlk := lookupW (P := Tryz.prog) Tryz.underlying27 Tryz.underlying28 ((MPL.out.below HBr.out).below hb) ek (.string ByteArray.empty) (zero_strD w') false;rw [(HRF.out.look _).1, HRF.out.at he, if_neg (by decide)] at hlk;exact hlk)
     have GLT := Hd hg2;have K1 := Hd k1;have K2 := Hd k2;have HJ : Hid (j + 1 ≤ E1.length ∧ E1.length ≤ 40) := Hd ⟨by omega, HF40.out⟩;have e4 : IntKind.i64.wrap ((j : Int) + 1) = ((j + 1 : Nat) : Int) := by have := HJ.out; rw [show (j : Int) + 1 = ((j + 1 : Nat) : Int) by omega]; exact IntWalk.i64_in _ (by omega)
     clear he hg2 k1 k2 hj hlt;go_upto_region 38 with fail
     refine wp_region_held_drew (S := fun w' => Below wr.heap.size wr w') (by kernel_rfl) Br.drew (fun hS => ?_);refine Hu 0 124 hS ?_;simp only [SL];refine Hu 1 125 hS ?_;simp only [SL];refine Hu 2 126 hS ?_;simp only [SL];refine Hu 3 127 hS ?_;simp only [SL];refine Hu 4 128 hS ?_;simp only [SL];refine Hv 5 129 ?vf5x6 hS ?hf5x6 ?_
     case hf5x6 =>
      intro w9 s9;have k9 := (cell_as (i := j * 2) (s9.block g1 GLT.out)).trans K1.out;clear s9;go_simp;try (with_reducible rfl)
     simp only [SL];refine Hv 6 130 ?vf6x7 hS ?hf6x7 ?_
     case hf6x7 =>
      intro w9 s9;have hlk9 := LK.out w9 s9;clear s9;go_simp;try (with_reducible rfl)
     simp only [SL];refine Hu 7 131 hS ?_;simp only [SL];refine Hu 8 132 hS ?_;simp only [SL];refine Hu 9 133 hS ?_;simp only [SL];refine Hu 10 134 hS ?_;simp only [SL];refine Hv 11 135 ?vf11x12 hS ?hf11x12 ?_
     case hf11x12 =>
      intro w9 s9;have k9 := (cell_as (i := j * 2 + 1) (s9.block g1 GLT.out)).trans K2.out;clear s9;go_simp;try (with_reducible rfl)
     simp only [SL];refine Hu 12 136 hS ?_;simp only [SL];refine wpAnyH_done (by kernel_rfl) ?_ _;have HQ := Hd (chain HBr.out hS);clear hS;go_wp2_with fail;go_roundw
     case rel => exact ⟨j + 1, rfl, HJ.out.1, HQ⟩
     case measure => have := HJ.out; simp [intOf]; omega
    ·have hli : ¬ (j : Int) < (E1.length : Int) := by omega
     have BF := Hd (chain BL.out HBr.out);clear hlt hj;go_wp2_with fail;go_ret;exact ⟨rfl, chain B1.out BF.out⟩
theorem txnDrops_law (a : Option Addr) (len cap : Nat) (zs : List Int) (a' : Option Addr) (len' cap' : Nat) (zs' : List Int) (c : Bool) (w : World) (hk : IsInts .u16 w a len cap zs) (hk' : IsInts .u16 w a' len' cap' zs') :
  Calls Tryz.prog 9 #[.slice a len cap, .slice a' len' cap', .bool c] w fun e w' => e = .returned (.bool true) ∧ Below w.heap.size w w' := by
 cases c with
 | true => exact txnDrops_true a len cap zs a' len' cap' zs' w hk hk'
 | false => exact txnDrops_false a len cap zs a' len' cap' zs' w hk hk'
end Go.Proofs.YtmomlhiokggfbaaGreatDoor
