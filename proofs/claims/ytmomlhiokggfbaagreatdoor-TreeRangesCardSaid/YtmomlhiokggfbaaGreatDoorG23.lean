/-
 TreeRangesLaw.
-/
import Derived.Test.YtmomlhiokggfbaaGreatDoorG21
import Derived.Test.YtmomlhiokggfbaaGreatDoorG22
namespace Go.Proofs.YtmomlhiokggfbaaGreatDoor
open Go.RowKit
set_option linter.unusedVariables false
set_option linter.unusedSimpArgs false
set_option maxRecDepth 20000
set_option maxHeartbeats 12800000
structure RgI (w1 w : World) (n : Nat) (b d x' s r' : Nat) (E : List Ent) (root : Int) : Prop where
 tr : TrR w1 [b] w d s n root E
 cb : w.heap[b]? = some (.cells #[.pointer (some ⟨d, 0, none⟩), .pointer (some ⟨x', 0, none⟩), .pointer (some ⟨s, 0, none⟩), .pointer (some ⟨r', 0, none⟩), .int .i64 root] 39)
 lo : w1.heap.size ≤ b
theorem RgI.put {w1 w : World} {n b d x' s r' : Nat} {E : List Ent} {root : Int} (h : RgI w1 w n b d x' s r' E root) {w6 w7 : World} {q : Int} {E' : List Ent} (hT : TrR w1 [b] w6 d s n q E') (hK : KeptL [b] w w6) (h7 : w6.setCell ⟨b, 4, none⟩ (.int .i64 q) = w7) : RgI w1 w7 n b d x' s r' E' q := by
 have f : Frm (fun k => k = b) w6 w7 := by rw [← h7]; exact set_frm _
 refine ⟨hT.turn (by simp) h.lo f, ?_, h.lo⟩;rw [← h7, heap_setCell_same _ _ 4 _ _ _ ((hK b (by simp)).trans h.cb)]
 rfl
theorem scanE_two {k : Int} (hk : 0 ≤ k) (E : List Ent) : scanE k (scanE 0 E) = scanE k E := by
 unfold scanE;rw [List.filter_filter]
 congr 1
 funext e
 by_cases h : k ≤ e.1
 ·have h0 : 0 ≤ e.1 := by omega
  simp [h, h0]
 ·simp [h]
theorem scan_cut {k : Int} {A : List Ent} {m n : Nat} (h1 : (scanE k (A.take m)).length ≤ n) (h2 : A.length ≤ m ∨ n ≤ (scanE k (A.take m)).length) : (scanE k A).take n = scanE k (A.take m) := by
 rcases h2 with h2 | h2
 ·rw [List.take_of_length_le h2] at h1 ⊢
  exact List.take_of_length_le h1
 ·have e : scanE k A = scanE k (A.take m) ++ scanE k (A.drop m) := by rw [← scanE_append, List.take_append_drop]
  rw [e, List.take_append_of_le_length h2];exact List.take_of_length_le h1
theorem _root_.Go.World.ownsRow.kept' {w w' : World} {base : Nat} {e : TypeId} {z : Nat} {v : Value} {n : Nat} {xs : List Value} (h : w.ownsRow base e z v n xs) (hb : Below w.heap.size w w') : w'.ownsRow base e z v n xs := own_frmZ (F := fun _ => False) h (Frm.of_below hb) fun _ _ h => h
theorem treeRanges_law (a : Option Addr) (len cap : Nat) (zs : List Int) (a1 a2 : Int) (w : World) (hk : IsInts .i64 w a len cap zs) (v1 : (Lit.int .i64 a1).wf = true) (v2 : (Lit.int .i64 a2).wf = true) :
  Calls Tryz.prog 5 #[.slice a len cap, .int .i64 a1, .int .i64 a2] w fun e w' => e = .returned (.bool true) ∧ Below w.heap.size w w' := by
 have BG := Lib.hid (fun w => begins_is w 400 (by decide) (by decide));have KV := Lib.hid (bounds_i64 v1);have CELLS := Lib.hid (int_cellA hk);have hlenL := ints_len hk;clear v1 v2 hk;go_enter Tryz.func5, Tryz.ntmps5;try simp only [List.append_eq, List.cons_append, List.nil_append]
 go_wp2_with fail;refine (examples_yes11 _).mono ?_;rintro e w1 ⟨rfl, b1⟩;have B1 := Lib.hid b1;clear b1;go_wp2_with fail;refine (BG.out _).mono ?_;rintro e w2 ⟨b, d, x', s, r', rfl, hcb, hlo, htr⟩;have HI0 : Hid (RgI w1 w2 400 b d x' s r' [] 0) := Lib.hid ⟨htr, hcb, hlo⟩;clear hcb hlo htr BG;go_wp2_with fail
 go_loopw [10, 11, 12] (fun i _ _ wr => ∃ (j : Nat) (E : List Ent) (root : Int), j ≤ len ∧ j ≤ 50 ∧ i = .int .i64 (j : Int) ∧ Hid (E.length ≤ j) ∧ Hid (RgI w1 wr 400 b d x' s r' E root)) (fun i _ _ _ => 51 - (intOf i).toNat)
 case atStart => exact ⟨0, [], 0, Nat.zero_le _, Nat.zero_le _, rfl, Lib.hid (Nat.le_refl _), HI0⟩
 case round =>
  obtain ⟨j, E, root, hj1, hj2, rfl, HLN, HI⟩ := hrel
  by_cases hjl : j < len
  ·have hjli : (j : Int) < (len : Int) := by omega
   by_cases hlt : j < 50
   ·have hli : (j : Int) < 50 := by omega
    obtain ⟨x, z, hax, _, ⟨hz1, hz2⟩, CELL⟩ := CELLS.out j hjl;subst hax;have HJ0 : Hid (-9223372036854775808 ≤ (j : Int)) := Lib.hid (by omega);have HJ1 : Hid ((j : Int) ≤ 9223372036854775807) := Lib.hid (by omega);have HJL : Hid (j + 1 ≤ len ∧ j + 1 ≤ 50) := Lib.hid ⟨by omega, by omega⟩;have HE5 : Hid (E.length < 2 ^ (5 + 1)) := Lib.hid (by have := HLN.out; omega);have HN5 : Hid (2 * E.length + 2 * 5 + 5 ≤ 400) := Lib.hid (by have := HLN.out; omega)
    have e4 : IntKind.i64.wrap ((j : Int) + 1) = ((j + 1 : Nat) : Int) := by rw [show (j : Int) + 1 = ((j + 1 : Nat) : Int) by omega]; exact IntWalk.i64_in _ (by omega)
    have TT := Lib.hid (And.intro (HI.out.tr.below (Below.refl _ _).drew) (show KeptL [b] wr wr.drew from fun _ _ => rfl));clear hj1 hj2 hjl hlt;go_upto_region 10 with fail
    refine wp_region_held_drew (S := fun w' => Below w1.heap.size w1 w' ∧ w'.heap[b]? = some (.cells #[.pointer (some ⟨d, 0, none⟩), .pointer (some ⟨x', 0, none⟩), .pointer (some ⟨s, 0, none⟩), .pointer (some ⟨r', 0, none⟩), .int .i64 root] 39)) (by kernel_rfl) ⟨TT.out.1.size, HI.out.cb⟩ (fun hS => ?_);refine Hu 0 40 hS ?_;simp only [SL];refine Hu 1 41 hS ?_;simp only [SL];refine Hu 2 42 hS ?_;simp only [SL];refine Hv 3 43 ?va3x4 hS ?ha3x4 ?_
    case ha3x4 =>
     intro w9 s9;obtain ⟨q0, q1, q2, q3, q4, _⟩ := cells5 s9.2;clear s9;go_simp;try (with_reducible rfl)
    simp only [SL];refine Hu 4 44 hS ?_;simp only [SL];refine Hu 5 45 hS ?_;simp only [SL];refine Hu 6 46 hS ?_;simp only [SL];refine Hv 7 47 ?va7x8 hS ?ha7x8 ?_
    case ha7x8 =>
     intro w9 s9;obtain ⟨q0, q1, q2, q3, q4, _⟩ := cells5 s9.2;clear s9;go_simp;try (with_reducible rfl)
    simp only [SL];refine Hu 8 48 hS ?_;simp only [SL];refine Hu 9 49 hS ?_;simp only [SL];refine Hu 10 50 hS ?_;simp only [SL];refine Hv 11 51 ?va11x12 hS ?ha11x12 ?_
    case ha11x12 =>
     intro w9 s9;have ca := CELL.out w9 (chain B1.out s9.1);clear s9;go_simp;try (with_reducible rfl)
    simp only [SL];refine Hu 13 53 hS ?_;simp only [SL];refine Hs 12 (fun K HK => ?_);go_simp;go_wp2_with fail;refine (key_is _ z hz1 hz2).mono ?_;rintro e w6 ⟨rfl, b6⟩;refine HK.out _ _ ?_ ?_
    ·exact ⟨chain hS.1 b6, (b6.block _ (Array.getElem?_eq_some_iff.1 hS.2).1).trans hS.2⟩
    clear HK K;try simp only [Act.put, SL]
    have hS' := And.intro (chain hS.1 b6) ((b6.block _ (Array.getElem?_eq_some_iff.1 hS.2).1).trans hS.2);clear hS;have hS := hS';clear hS';have TTn := Lib.hid (And.intro (TT.out.1.below b6) (TT.out.2.trans (TT.out.1.kept b6)));clear TT b6;have TT := TTn;clear TTn;refine Hs 14 (fun K HK => ?_);go_simp;go_wp2_with fail;refine (value_is _ (j : Int) HJ0.out HJ1.out).mono ?_;rintro e w6 ⟨rfl, b6⟩;refine HK.out _ _ ?_ ?_
    ·exact ⟨chain hS.1 b6, (b6.block _ (Array.getElem?_eq_some_iff.1 hS.2).1).trans hS.2⟩
    clear HK K;try simp only [Act.put, SL]
    have hS' := And.intro (chain hS.1 b6) ((b6.block _ (Array.getElem?_eq_some_iff.1 hS.2).1).trans hS.2);clear hS;have hS := hS';clear hS';have TTn := Lib.hid (And.intro (TT.out.1.below b6) (TT.out.2.trans (TT.out.1.kept b6)));clear TT b6;have TT := TTn;clear TTn;refine Hs 15 (fun K HK => ?_);go_simp;go_wp2_with fail;refine (put_R TT.out.1 5 (by decide) HE5.out HN5.out _ (lawK_ok z) _ (lawV_size _)).mono ?_;rintro e w6 ⟨q, rfl, hT, hK⟩;refine HK.out _ _ ?_ ?_
    ·exact ⟨hT.size, (hK b (by simp)).trans hS.2⟩
    clear HK K;try simp only [Act.put, SL]
    have hS' := And.intro hT.size ((hK b (by simp)).trans hS.2);clear hS;have hS := hS';clear hS';have TTn := Lib.hid (And.intro hT (TT.out.2.trans hK));clear TT hT hK;have TT := TTn;clear TTn;refine Hu 16 39 hS ?_;simp only [SL];refine Hu 17 56 hS ?_;simp only [SL];refine Hu 18 57 hS ?_;simp only [SL];refine Hu 19 11 hS ?_;simp only [SL];refine Hu 20 12 hS ?_;simp only [SL];refine wpAnyH_done (by kernel_rfl) ?_ _;obtain ⟨_, _, _, _, p4, pf⟩ := cells5 hS.2;have pf4 := pf 4;obtain ⟨w7, hw7⟩ : ∃ w7, w6.setCell ⟨b, 4, none⟩ (.int .i64 q) = w7 := ⟨_, rfl⟩
    have FIN := Lib.hid (HI.out.put TT.out.1 TT.out.2 hw7);have LEN : Hid ((insE (lawK z) (lawV (j : Int)) E).length ≤ j + 1) := Lib.hid (by have := HLN.out; have := insE_len (lawK z) (lawV (j : Int)) E; omega);clear TT hS HI;go_upto_region 9 with fail
    try rw [hw7]
    clear hw7 p4 pf pf4;go_wp2_with fail;go_roundw
    case rel => exact ⟨j + 1, _, _, HJL.out.1, HJL.out.2, rfl, LEN, FIN⟩
    case measure => have := HJL.out; simp [intOf]; omega
   ·have hli : ¬ (j : Int) < 50 := by omega
    have HE6 : Hid (E.length ≤ 600) := Lib.hid (by have := HLN.out; omega);have TT := Lib.hid (And.intro (HI.out.tr.below (Below.refl _ _).drew) (show KeptL [b] wr wr.drew from fun _ _ => rfl));have LN50 : Hid (E.length ≤ 50) := Lib.hid (by have := HLN.out; omega);clear hj1 hj2 hjl hlt hlenL CELLS;go_upto_region 14 with fail
    refine wp_region_held_drew (S := fun w' => Below w1.heap.size w1 w' ∧ w'.heap[b]? = some (.cells #[.pointer (some ⟨d, 0, none⟩), .pointer (some ⟨x', 0, none⟩), .pointer (some ⟨s, 0, none⟩), .pointer (some ⟨r', 0, none⟩), .int .i64 root] 39)) (by kernel_rfl) ⟨TT.out.1.size, HI.out.cb⟩ (fun hS => ?_);refine Hu 0 65 hS ?_;simp only [SL];refine Hu 1 66 hS ?_;simp only [SL];refine Hu 2 67 hS ?_;simp only [SL];refine Hv 3 68 ?vr3x4 hS ?hr3x4 ?_
    case hr3x4 =>
     intro w9 s9;obtain ⟨q0, q1, q2, q3, q4, _⟩ := cells5 s9.2;clear s9;go_simp;try (with_reducible rfl)
    simp only [SL];refine Hu 4 69 hS ?_;simp only [SL];refine Hu 5 70 hS ?_;simp only [SL];refine Hu 6 71 hS ?_;simp only [SL];refine Hv 7 72 ?vr7x8 hS ?hr7x8 ?_
    case hr7x8 =>
     intro w9 s9;obtain ⟨q0, q1, q2, q3, q4, _⟩ := cells5 s9.2;clear s9;go_simp;try (with_reducible rfl)
    simp only [SL];refine Hs 8 (fun K HK => ?_);go_simp;go_wp2_with fail;refine (scan_R TT.out.1 HE6.out _ _).mono ?_;rintro e w6 ⟨v, rfl, hrv, hT0, hK, hnv⟩;have hT := hT0.sub (R' := v.ownBlock.toList ++ [b]) (fun k hk => by simp only [List.mem_append] at hk ⊢; first | exact hk | exact .inr hk);clear hT0;refine HK.out _ _ ?_ ?_
    ·exact ⟨hT.size, (hK b (by simp)).trans hS.2⟩
    clear HK K;try simp only [Act.put, SL]
    have hS' := And.intro hT.size ((hK b (by simp)).trans hS.2);clear hS;have hS := hS';clear hS';have TTn := Lib.hid (And.intro hT (TT.out.2.trans hK));clear TT hT hK;have TT := TTn;clear TTn;refine Hu 9 64 hS ?_;simp only [SL];refine Hu 10 74 hS ?_;simp only [SL];refine Hu 11 75 hS ?_;simp only [SL];refine Hu 12 13 hS ?_;simp only [SL];refine Hu 13 14 hS ?_;simp only [SL];refine wpAnyH_done (by kernel_rfl) ?_ _;obtain ⟨A, hA⟩ : ∃ A, (scanE 0 E).take (Int.toNat 1000) = A := ⟨_, rfl⟩
    rw [hA] at hrv;have hle : (scanE 0 E).length ≤ 50 := Nat.le_trans (scanE_len 0 E) LN50.out;have HAA : Hid (A = scanE 0 E) := Lib.hid (by rw [← hA]; exact List.take_of_length_le (Nat.le_trans hle (by decide)));have HA50 : Hid (A.length ≤ 50) := Lib.hid (by rw [HAA.out]; exact hle);obtain ⟨va0, vc0, rfl⟩ := hrv.shape;have HRV := Lib.hid hrv;obtain ⟨wA, hwA⟩ : ∃ wA, wA = w6 := ⟨_, rfl⟩
    subst hwA;have SA := Lib.hid hS;have TT2 := Lib.hid (And.intro (TT.out.1.below (Below.refl _ _).drew) (show KeptL ((Value.slice va0 A.length vc0).ownBlock.toList ++ [b]) wA wA.drew from fun _ _ => rfl));clear TT;have TT := TT2;clear TT2 hS hrv hnv hA hle;go_upto_region 15 with fail
    refine wp_region_held_drew (S := fun w' => Below w1.heap.size w1 w' ∧ w'.heap[b]? = some (.cells #[.pointer (some ⟨d, 0, none⟩), .pointer (some ⟨x', 0, none⟩), .pointer (some ⟨s, 0, none⟩), .pointer (some ⟨r', 0, none⟩), .int .i64 root] 39)) (by kernel_rfl) ⟨TT.out.1.size, SA.out.2⟩ (fun hS => ?_);refine Hu 0 77 hS ?_;simp only [SL];refine Hu 1 78 hS ?_;simp only [SL];refine Hu 2 79 hS ?_;simp only [SL];refine Hv 3 80 ?vrf3x4 hS ?hrf3x4 ?_
    case hrf3x4 =>
     intro w9 s9;obtain ⟨q0, q1, q2, q3, q4, _⟩ := cells5 s9.2;clear s9;go_simp;try (with_reducible rfl)
    simp only [SL];refine Hu 4 81 hS ?_;simp only [SL];refine Hu 5 82 hS ?_;simp only [SL];refine Hu 6 83 hS ?_;simp only [SL];refine Hv 7 84 ?vrf7x8 hS ?hrf7x8 ?_
    case hrf7x8 =>
     intro w9 s9;obtain ⟨q0, q1, q2, q3, q4, _⟩ := cells5 s9.2;clear s9;go_simp;try (with_reducible rfl)
    simp only [SL];refine Hu 8 85 hS ?_;simp only [SL];refine Hu 10 87 hS ?_;simp only [SL];refine Hs 9 (fun K HK => ?_);go_simp;go_wp2_with fail;refine (key_is _ a1 KV.out.1 KV.out.2).mono ?_;rintro e w6 ⟨rfl, b6⟩;refine HK.out _ _ ?_ ?_
    ·exact ⟨chain hS.1 b6, (b6.block _ (Array.getElem?_eq_some_iff.1 hS.2).1).trans hS.2⟩
    clear HK K;try simp only [Act.put, SL]
    have hS' := And.intro (chain hS.1 b6) ((b6.block _ (Array.getElem?_eq_some_iff.1 hS.2).1).trans hS.2);clear hS;have hS := hS';clear hS';have TTn := Lib.hid (And.intro (TT.out.1.below b6) (TT.out.2.trans (TT.out.1.kept b6)));clear TT b6;have TT := TTn;clear TTn;refine Hs 11 (fun K HK => ?_);go_simp;go_wp2_with fail;refine (scan_R TT.out.1 HE6.out _ _).mono ?_;rintro e w6 ⟨v5, rfl, hrv5, hT0, hK, hnv5⟩;have hT := hT0.sub (R' := (Value.slice va0 A.length vc0).ownBlock.toList ++ [b]) (fun k hk => by simp only [List.mem_append] at hk ⊢; first | exact hk | exact .inr hk);clear hT0
    refine HK.out _ _ ?_ ?_
    ·exact ⟨hT.size, (hK b (by simp)).trans hS.2⟩
    clear HK K;try simp only [Act.put, SL]
    have hS' := And.intro hT.size ((hK b (by simp)).trans hS.2);clear hS;have hS := hS';clear hS';have TTn := Lib.hid (And.intro hT (TT.out.2.trans hK));clear TT hT hK;have TT := TTn;clear TTn;refine Hu 12 76 hS ?_;simp only [SL];refine Hu 13 89 hS ?_;simp only [SL];refine Hu 14 90 hS ?_;simp only [SL];refine Hu 15 15 hS ?_;simp only [SL];refine Hu 16 16 hS ?_;simp only [SL];refine wpAnyH_done (by kernel_rfl) ?_ _;have hS0 := hS.1;obtain ⟨wL, hwL⟩ : ∃ wL, wL = w6 := ⟨_, rfl⟩
    subst hwL;obtain ⟨L, hL⟩ : ∃ L, (scanE (lawK a1) E).take a2.toNat = L := ⟨_, rfl⟩
    rw [hL] at hrv5;have HLL := Lib.hid hL;have ROWL := Lib.hid hrv5;have ROWA := Lib.hid (HRV.out.kept fun k hk => TT.out.2 k (by simp [hk]));have BL := Lib.hid hS0;clear hS hS0 TT hL hrv5 hnv5 HRV HI HLN;go_wp2_with fail
    go_loopw [17, 18] (fun v i wr => ∃ (m : Nat) (va : Option Addr) (vc : Nat), i = .int .i64 (m : Int) ∧ v = .slice va (scanE (lawK a1) (A.take m)).length vc ∧ m ≤ A.length ∧ Hid ((scanE (lawK a1) (A.take m)).length ≤ a2.toNat) ∧ Hid (Below wL.heap.size wL wr) ∧ Hid (wr.ownsRow wL.heap.size 50 2 (.slice va (scanE (lawK a1) (A.take m)).length vc) (scanE (lawK a1) (A.take m)).length (rowsE (scanE (lawK a1) (A.take m))))) (fun _ i _ => A.length - (intOf i).toNat)
    case atStart => exact ⟨0, none, 0, rfl, rfl, Nat.zero_le _, Lib.hid (Nat.zero_le _), Lib.hid (Below.refl _ _), Lib.hid (World.ownsRow_nil _ _ _ _)⟩
    case round =>
     obtain ⟨m, va, vc, rfl, rfl, hmA, HLE, HBr, HOr⟩ := hrel;have HLM : Hid ((scanE (lawK a1) (A.take m)).length ≤ 50) := Lib.hid (by have h1 := scanE_len (lawK a1) (A.take m); rw [List.length_take] at h1; have := HA50.out; omega)
     by_cases hlt : m < A.length
     ·have hli : (m : Int) < (A.length : Int) := by omega
      by_cases hmo : ((scanE (lawK a1) (A.take m)).length : Int) < a2
      ·obtain ⟨en, hen⟩ : ∃ en, A[m]? = some en := ⟨_, List.getElem?_eq_getElem hlt⟩
       obtain ⟨g, hg0, hg1, hg2, hg3⟩ := (ROWA.out.below HBr.out).at hen;subst hg0;have GLT := Lib.hid hg1;have K1 := Lib.hid hg2;have K2 := Lib.hid hg3;have HEN := Lib.hid hen;have HMA : Hid (m + 1 ≤ A.length) := Lib.hid (by omega);have hm50 : m ≤ 50 := by have := HA50.out; omega
       clear hg1 hg2 hg3 hen hlt hmA;go_upto_region 20 with fail
       refine wp_region_held_drew (S := fun w' => Below wr.heap.size wr w') (by kernel_rfl) (Below.refl _ _).drew (fun hS => ?_);refine Hu 0 103 hS ?_;simp only [SL];refine Hu 1 104 hS ?_;simp only [SL];refine Hu 2 105 hS ?_;simp only [SL];refine Hu 3 106 hS ?_;simp only [SL];refine Hv 4 107 ?vrl4x5 hS ?hrl4x5 ?_
       case hrl4x5 =>
        intro w9 s9;have k9 := (cell_as (i := m * 2) (s9.block g GLT.out)).trans K1.out;clear s9;go_simp;try (with_reducible rfl)
       simp only [SL];refine Hu 5 108 hS ?_;simp only [SL];refine Hs 6 (fun K HK => ?_);go_simp;go_wp2_with fail;refine (key_is _ a1 KV.out.1 KV.out.2).mono ?_;rintro e' w6 ⟨rfl, b6⟩;refine HK.out _ _ ?_ ?_
       ·exact chain hS b6
       clear HK K;try simp only [Act.put, SL]
       have hS' := chain hS b6;clear hS;have hS := hS';clear hS' b6;refine Hu 7 110 hS ?_;simp only [SL];refine wpAnyH_done (by kernel_rfl) ?_ _;have HS6 := Lib.hid hS;have k61 := (cell_as (i := m * 2) (hS.block g GLT.out)).trans K1.out;have k62 := (cell_as (i := m * 2 + 1) (hS.block g GLT.out)).trans K2.out;have e4 : IntKind.i64.wrap ((m : Int) + 1) = ((m + 1 : Nat) : Int) := by rw [show (m : Int) + 1 = ((m + 1 : Nat) : Int) by omega]; exact IntWalk.i64_in _ (by omega)
       have hTK : A.take (m + 1) = A.take m ++ [en] := by obtain ⟨hm, rfl⟩ := List.getElem?_eq_some_iff.1 HEN.out; exact List.take_succ_eq_append_getElem hm
       by_cases hge : lawK a1 ≤ en.1
       ·have hW : scanE (lawK a1) (A.take (m + 1)) = scanE (lawK a1) (A.take m) ++ [en] := by rw [hTK, scanE_append]; simp [scanE, hge]
        have HW := Lib.hid hW;obtain ⟨i0, z0, hi, hz0, hz1, hz2, hz3⟩ := info_entry;have OW := Lib.hid ((HOr.out.kept' HS6.out).alloc (.cells #[.int .u64 en.1, .string en.2] 50));have nb := Lib.hid (heap_alloc_new w6 (.cells #[.int .u64 en.1, .string en.2] 50))
        obtain ⟨v', w9, hap, hown', hgrow, _, hat⟩ := run_append_own_at (P := Tryz.prog) (w6.alloc (.cells #[.int .u64 en.1, .string en.2] 50)) wL.heap.size 43 43 50 i0 z0 2 24 Tryz.underlying43 hi hz0 hz1 hz2 hz3 (by decide) _ _ _ OW.out ⟨w6.heap.size, 0, none⟩ 1 1 (rowE en) rfl (fun j u hj => by
         match j, hj with
         | 0, hj => injection hj with hj; subst hj; exact (cellsE nb.out).1
         | 1, hj => injection hj with hj; subst hj; exact (cellsE nb.out).2
         | j + 2, hj => simp [rowE] at hj) (fun u hu => by
         simp only [rowE, List.mem_cons, List.not_mem_nil, or_false] at hu
         rcases hu with rfl | rfl <;> rfl) (by have := HLM.out; unfold maxLen; omega) (by have := HLM.out; omega) (by have := HBr.out.size; have := HS6.out.size; simp; omega)
        rw [← rowsE_snoc, ← hW] at hown';have hlen : (scanE (lawK a1) (A.take m)).length + 1 = (scanE (lawK a1) (A.take (m + 1))).length := by rw [hW]; simp
        rw [hlen] at hown';obtain ⟨va', vc', rfl, _, _⟩ := own_shape7 hown';have HO9 := Lib.hid hown'
        have HB9 : Hid (Below wL.heap.size wL w9) := Lib.hid (by
         have f : Frm (fun k => (Value.slice va (scanE (lawK a1) (A.take m)).length vc).ownBlock = some k) wr w9 := (((Frm.of_below HS6.out).alloc _).grown hgrow fun k hk => .inl hk)
         exact HBr.out.trans (f.below (fun k hk => (HOr.out.lt k hk).1) HBr.out.size))
        have HL9 : Hid ((scanE (lawK a1) (A.take (m + 1))).length ≤ a2.toNat) := Lib.hid (by rw [← hlen]; omega);clear hown' hgrow hat hi hz0 hz1 hz2 hz3 hW hTK OW nb hlen;clear hS
        go_wp2_with (at_builtin; refine append_run rfl (.tmp 111) (.tmp 116) 43 rfl _ _ _ rfl rfl hap ?_)
        clear hap;go_wp2_with fail;go_roundw
        case rel => exact ⟨m + 1, _, _, rfl, rfl, HMA.out, HL9, HB9, HO9⟩
        case measure => have := HMA.out; simp [intOf]; omega
       ·have hW : scanE (lawK a1) (A.take (m + 1)) = scanE (lawK a1) (A.take m) := by rw [hTK, scanE_append]; simp [scanE, hge]
        have HF : Hid (Below wL.heap.size wL w6 ∧ w6.ownsRow wL.heap.size 50 2 (.slice va (scanE (lawK a1) (A.take m)).length vc) (scanE (lawK a1) (A.take m)).length (rowsE (scanE (lawK a1) (A.take m)))) := Lib.hid ⟨chain HBr.out hS, HOr.out.kept' hS⟩;have HW := Lib.hid hW;clear hW hTK hS;go_wp2_with fail;go_roundw
        case rel => exact ⟨m + 1, va, vc, rfl, by rw [HW.out], HMA.out, by rw [HW.out]; exact HLE, Lib.hid HF.out.1, by rw [HW.out]; exact Lib.hid HF.out.2⟩
        case measure => have := HMA.out; simp [intOf]; omega
      ·have HLW : Hid (L = scanE (lawK a1) (A.take m)) := Lib.hid (by rw [← HLL.out, ← scanE_two (lawK_ok a1).1, ← HAA.out]; exact scan_cut HLE.out (.inr (by omega)))
       have R1 := ROWL.out.below HBr.out;have R2 : RowE wr (.slice va (scanE (lawK a1) (A.take m)).length vc) L := by rw [HLW.out]; exact ⟨HOr.out.1, HOr.out.2.imp id fun ⟨g, cap, cur, hv, _, r⟩ => ⟨g, cap, cur, hv, Nat.zero_le _, r⟩⟩
       have ES := Lib.hid (entries_same wr _ _ L R1 R2);clear R1 R2;go_wp2_with fail;refine ES.out.mono ?_;rintro e w8 ⟨rfl, b8⟩;have BF := Lib.hid (chain (chain BL.out HBr.out) b8);clear b8;go_wp2_with fail;go_ret;exact ⟨rfl, chain B1.out BF.out⟩
     ·have HAM : Hid (A.length ≤ m) := Lib.hid (by omega)
      have hli : ¬ (m : Int) < (A.length : Int) := by omega
      clear hlt;have HLW : Hid (L = scanE (lawK a1) (A.take m)) := Lib.hid (by rw [← HLL.out, ← scanE_two (lawK_ok a1).1, ← HAA.out]; exact scan_cut HLE.out (.inl HAM.out));have R1 := ROWL.out.below HBr.out;have R2 : RowE wr (.slice va (scanE (lawK a1) (A.take m)).length vc) L := by rw [HLW.out]; exact ⟨HOr.out.1, HOr.out.2.imp id fun ⟨g, cap, cur, hv, _, r⟩ => ⟨g, cap, cur, hv, Nat.zero_le _, r⟩⟩
      have ES := Lib.hid (entries_same wr _ _ L R1 R2);clear R1 R2;go_wp2_with fail;refine ES.out.mono ?_;rintro e w8 ⟨rfl, b8⟩;have BF := Lib.hid (chain (chain BL.out HBr.out) b8);clear b8;go_wp2_with fail;go_ret;exact ⟨rfl, chain B1.out BF.out⟩
  ·have hjli : ¬ (j : Int) < (len : Int) := by omega
   have HE6 : Hid (E.length ≤ 600) := Lib.hid (by have := HLN.out; omega);have TT := Lib.hid (And.intro (HI.out.tr.below (Below.refl _ _).drew) (show KeptL [b] wr wr.drew from fun _ _ => rfl));have LN50 : Hid (E.length ≤ 50) := Lib.hid (by have := HLN.out; omega);clear hj1 hj2 hjl hlenL CELLS;go_upto_region 14 with fail
   refine wp_region_held_drew (S := fun w' => Below w1.heap.size w1 w' ∧ w'.heap[b]? = some (.cells #[.pointer (some ⟨d, 0, none⟩), .pointer (some ⟨x', 0, none⟩), .pointer (some ⟨s, 0, none⟩), .pointer (some ⟨r', 0, none⟩), .int .i64 root] 39)) (by kernel_rfl) ⟨TT.out.1.size, HI.out.cb⟩ (fun hS => ?_);refine Hu 0 65 hS ?_;simp only [SL];refine Hu 1 66 hS ?_;simp only [SL];refine Hu 2 67 hS ?_;simp only [SL];refine Hv 3 68 ?vs3x4 hS ?hs3x4 ?_
   case hs3x4 =>
    intro w9 s9;obtain ⟨q0, q1, q2, q3, q4, _⟩ := cells5 s9.2;clear s9;go_simp;try (with_reducible rfl)
   simp only [SL];refine Hu 4 69 hS ?_;simp only [SL];refine Hu 5 70 hS ?_;simp only [SL];refine Hu 6 71 hS ?_;simp only [SL];refine Hv 7 72 ?vs7x8 hS ?hs7x8 ?_
   case hs7x8 =>
    intro w9 s9;obtain ⟨q0, q1, q2, q3, q4, _⟩ := cells5 s9.2;clear s9;go_simp;try (with_reducible rfl)
   simp only [SL];refine Hs 8 (fun K HK => ?_);go_simp;go_wp2_with fail;refine (scan_R TT.out.1 HE6.out _ _).mono ?_;rintro e w6 ⟨v, rfl, hrv, hT0, hK, hnv⟩;have hT := hT0.sub (R' := v.ownBlock.toList ++ [b]) (fun k hk => by simp only [List.mem_append] at hk ⊢; first | exact hk | exact .inr hk);clear hT0;refine HK.out _ _ ?_ ?_
   ·exact ⟨hT.size, (hK b (by simp)).trans hS.2⟩
   clear HK K;try simp only [Act.put, SL]
   have hS' := And.intro hT.size ((hK b (by simp)).trans hS.2);clear hS;have hS := hS';clear hS';have TTn := Lib.hid (And.intro hT (TT.out.2.trans hK));clear TT hT hK;have TT := TTn;clear TTn;refine Hu 9 64 hS ?_;simp only [SL];refine Hu 10 74 hS ?_;simp only [SL];refine Hu 11 75 hS ?_;simp only [SL];refine Hu 12 13 hS ?_;simp only [SL];refine Hu 13 14 hS ?_;simp only [SL];refine wpAnyH_done (by kernel_rfl) ?_ _;obtain ⟨A, hA⟩ : ∃ A, (scanE 0 E).take (Int.toNat 1000) = A := ⟨_, rfl⟩
   rw [hA] at hrv;have hle : (scanE 0 E).length ≤ 50 := Nat.le_trans (scanE_len 0 E) LN50.out;have HAA : Hid (A = scanE 0 E) := Lib.hid (by rw [← hA]; exact List.take_of_length_le (Nat.le_trans hle (by decide)));have HA50 : Hid (A.length ≤ 50) := Lib.hid (by rw [HAA.out]; exact hle);obtain ⟨va0, vc0, rfl⟩ := hrv.shape;have HRV := Lib.hid hrv;obtain ⟨wA, hwA⟩ : ∃ wA, wA = w6 := ⟨_, rfl⟩
   subst hwA;have SA := Lib.hid hS;have TT2 := Lib.hid (And.intro (TT.out.1.below (Below.refl _ _).drew) (show KeptL ((Value.slice va0 A.length vc0).ownBlock.toList ++ [b]) wA wA.drew from fun _ _ => rfl));clear TT;have TT := TT2;clear TT2 hS hrv hnv hA hle;go_upto_region 15 with fail
   refine wp_region_held_drew (S := fun w' => Below w1.heap.size w1 w' ∧ w'.heap[b]? = some (.cells #[.pointer (some ⟨d, 0, none⟩), .pointer (some ⟨x', 0, none⟩), .pointer (some ⟨s, 0, none⟩), .pointer (some ⟨r', 0, none⟩), .int .i64 root] 39)) (by kernel_rfl) ⟨TT.out.1.size, SA.out.2⟩ (fun hS => ?_);refine Hu 0 77 hS ?_;simp only [SL];refine Hu 1 78 hS ?_;simp only [SL];refine Hu 2 79 hS ?_;simp only [SL];refine Hv 3 80 ?vsf3x4 hS ?hsf3x4 ?_
   case hsf3x4 =>
    intro w9 s9;obtain ⟨q0, q1, q2, q3, q4, _⟩ := cells5 s9.2;clear s9;go_simp;try (with_reducible rfl)
   simp only [SL];refine Hu 4 81 hS ?_;simp only [SL];refine Hu 5 82 hS ?_;simp only [SL];refine Hu 6 83 hS ?_;simp only [SL];refine Hv 7 84 ?vsf7x8 hS ?hsf7x8 ?_
   case hsf7x8 =>
    intro w9 s9;obtain ⟨q0, q1, q2, q3, q4, _⟩ := cells5 s9.2;clear s9;go_simp;try (with_reducible rfl)
   simp only [SL];refine Hu 8 85 hS ?_;simp only [SL];refine Hu 10 87 hS ?_;simp only [SL];refine Hs 9 (fun K HK => ?_);go_simp;go_wp2_with fail;refine (key_is _ a1 KV.out.1 KV.out.2).mono ?_;rintro e w6 ⟨rfl, b6⟩;refine HK.out _ _ ?_ ?_
   ·exact ⟨chain hS.1 b6, (b6.block _ (Array.getElem?_eq_some_iff.1 hS.2).1).trans hS.2⟩
   clear HK K;try simp only [Act.put, SL]
   have hS' := And.intro (chain hS.1 b6) ((b6.block _ (Array.getElem?_eq_some_iff.1 hS.2).1).trans hS.2);clear hS;have hS := hS';clear hS';have TTn := Lib.hid (And.intro (TT.out.1.below b6) (TT.out.2.trans (TT.out.1.kept b6)));clear TT b6;have TT := TTn;clear TTn;refine Hs 11 (fun K HK => ?_);go_simp;go_wp2_with fail;refine (scan_R TT.out.1 HE6.out _ _).mono ?_;rintro e w6 ⟨v5, rfl, hrv5, hT0, hK, hnv5⟩;have hT := hT0.sub (R' := (Value.slice va0 A.length vc0).ownBlock.toList ++ [b]) (fun k hk => by simp only [List.mem_append] at hk ⊢; first | exact hk | exact .inr hk);clear hT0
   refine HK.out _ _ ?_ ?_
   ·exact ⟨hT.size, (hK b (by simp)).trans hS.2⟩
   clear HK K;try simp only [Act.put, SL]
   have hS' := And.intro hT.size ((hK b (by simp)).trans hS.2);clear hS;have hS := hS';clear hS';have TTn := Lib.hid (And.intro hT (TT.out.2.trans hK));clear TT hT hK;have TT := TTn;clear TTn;refine Hu 12 76 hS ?_;simp only [SL];refine Hu 13 89 hS ?_;simp only [SL];refine Hu 14 90 hS ?_;simp only [SL];refine Hu 15 15 hS ?_;simp only [SL];refine Hu 16 16 hS ?_;simp only [SL];refine wpAnyH_done (by kernel_rfl) ?_ _;have hS0 := hS.1;obtain ⟨wL, hwL⟩ : ∃ wL, wL = w6 := ⟨_, rfl⟩
   subst hwL;obtain ⟨L, hL⟩ : ∃ L, (scanE (lawK a1) E).take a2.toNat = L := ⟨_, rfl⟩
   rw [hL] at hrv5;have HLL := Lib.hid hL;have ROWL := Lib.hid hrv5;have ROWA := Lib.hid (HRV.out.kept fun k hk => TT.out.2 k (by simp [hk]));have BL := Lib.hid hS0;clear hS hS0 TT hL hrv5 hnv5 HRV HI HLN;go_wp2_with fail
   go_loopw [17, 18] (fun v i wr => ∃ (m : Nat) (va : Option Addr) (vc : Nat), i = .int .i64 (m : Int) ∧ v = .slice va (scanE (lawK a1) (A.take m)).length vc ∧ m ≤ A.length ∧ Hid ((scanE (lawK a1) (A.take m)).length ≤ a2.toNat) ∧ Hid (Below wL.heap.size wL wr) ∧ Hid (wr.ownsRow wL.heap.size 50 2 (.slice va (scanE (lawK a1) (A.take m)).length vc) (scanE (lawK a1) (A.take m)).length (rowsE (scanE (lawK a1) (A.take m))))) (fun _ i _ => A.length - (intOf i).toNat)
   case atStart => exact ⟨0, none, 0, rfl, rfl, Nat.zero_le _, Lib.hid (Nat.zero_le _), Lib.hid (Below.refl _ _), Lib.hid (World.ownsRow_nil _ _ _ _)⟩
   case round =>
    obtain ⟨m, va, vc, rfl, rfl, hmA, HLE, HBr, HOr⟩ := hrel;have HLM : Hid ((scanE (lawK a1) (A.take m)).length ≤ 50) := Lib.hid (by have h1 := scanE_len (lawK a1) (A.take m); rw [List.length_take] at h1; have := HA50.out; omega)
    by_cases hlt : m < A.length
    ·have hli : (m : Int) < (A.length : Int) := by omega
     by_cases hmo : ((scanE (lawK a1) (A.take m)).length : Int) < a2
     ·obtain ⟨en, hen⟩ : ∃ en, A[m]? = some en := ⟨_, List.getElem?_eq_getElem hlt⟩
      obtain ⟨g, hg0, hg1, hg2, hg3⟩ := (ROWA.out.below HBr.out).at hen;subst hg0;have GLT := Lib.hid hg1;have K1 := Lib.hid hg2;have K2 := Lib.hid hg3;have HEN := Lib.hid hen;have HMA : Hid (m + 1 ≤ A.length) := Lib.hid (by omega);have hm50 : m ≤ 50 := by have := HA50.out; omega
      clear hg1 hg2 hg3 hen hlt hmA;go_upto_region 20 with fail
      refine wp_region_held_drew (S := fun w' => Below wr.heap.size wr w') (by kernel_rfl) (Below.refl _ _).drew (fun hS => ?_);refine Hu 0 103 hS ?_;simp only [SL];refine Hu 1 104 hS ?_;simp only [SL];refine Hu 2 105 hS ?_;simp only [SL];refine Hu 3 106 hS ?_;simp only [SL];refine Hv 4 107 ?vsl4x5 hS ?hsl4x5 ?_
      case hsl4x5 =>
       intro w9 s9;have k9 := (cell_as (i := m * 2) (s9.block g GLT.out)).trans K1.out;clear s9;go_simp;try (with_reducible rfl)
      simp only [SL];refine Hu 5 108 hS ?_;simp only [SL];refine Hs 6 (fun K HK => ?_);go_simp;go_wp2_with fail;refine (key_is _ a1 KV.out.1 KV.out.2).mono ?_;rintro e' w6 ⟨rfl, b6⟩;refine HK.out _ _ ?_ ?_
      ·exact chain hS b6
      clear HK K;try simp only [Act.put, SL]
      have hS' := chain hS b6;clear hS;have hS := hS';clear hS' b6;refine Hu 7 110 hS ?_;simp only [SL];refine wpAnyH_done (by kernel_rfl) ?_ _;have HS6 := Lib.hid hS;have k61 := (cell_as (i := m * 2) (hS.block g GLT.out)).trans K1.out;have k62 := (cell_as (i := m * 2 + 1) (hS.block g GLT.out)).trans K2.out;have e4 : IntKind.i64.wrap ((m : Int) + 1) = ((m + 1 : Nat) : Int) := by rw [show (m : Int) + 1 = ((m + 1 : Nat) : Int) by omega]; exact IntWalk.i64_in _ (by omega)
      have hTK : A.take (m + 1) = A.take m ++ [en] := by obtain ⟨hm, rfl⟩ := List.getElem?_eq_some_iff.1 HEN.out; exact List.take_succ_eq_append_getElem hm
      by_cases hge : lawK a1 ≤ en.1
      ·have hW : scanE (lawK a1) (A.take (m + 1)) = scanE (lawK a1) (A.take m) ++ [en] := by rw [hTK, scanE_append]; simp [scanE, hge]
       have HW := Lib.hid hW;obtain ⟨i0, z0, hi, hz0, hz1, hz2, hz3⟩ := info_entry;have OW := Lib.hid ((HOr.out.kept' HS6.out).alloc (.cells #[.int .u64 en.1, .string en.2] 50));have nb := Lib.hid (heap_alloc_new w6 (.cells #[.int .u64 en.1, .string en.2] 50))
       obtain ⟨v', w9, hap, hown', hgrow, _, hat⟩ := run_append_own_at (P := Tryz.prog) (w6.alloc (.cells #[.int .u64 en.1, .string en.2] 50)) wL.heap.size 43 43 50 i0 z0 2 24 Tryz.underlying43 hi hz0 hz1 hz2 hz3 (by decide) _ _ _ OW.out ⟨w6.heap.size, 0, none⟩ 1 1 (rowE en) rfl (fun j u hj => by
        match j, hj with
        | 0, hj => injection hj with hj; subst hj; exact (cellsE nb.out).1
        | 1, hj => injection hj with hj; subst hj; exact (cellsE nb.out).2
        | j + 2, hj => simp [rowE] at hj) (fun u hu => by
        simp only [rowE, List.mem_cons, List.not_mem_nil, or_false] at hu
        rcases hu with rfl | rfl <;> rfl) (by have := HLM.out; unfold maxLen; omega) (by have := HLM.out; omega) (by have := HBr.out.size; have := HS6.out.size; simp; omega)
       rw [← rowsE_snoc, ← hW] at hown';have hlen : (scanE (lawK a1) (A.take m)).length + 1 = (scanE (lawK a1) (A.take (m + 1))).length := by rw [hW]; simp
       rw [hlen] at hown';obtain ⟨va', vc', rfl, _, _⟩ := own_shape7 hown';have HO9 := Lib.hid hown'
       have HB9 : Hid (Below wL.heap.size wL w9) := Lib.hid (by
        have f : Frm (fun k => (Value.slice va (scanE (lawK a1) (A.take m)).length vc).ownBlock = some k) wr w9 := (((Frm.of_below HS6.out).alloc _).grown hgrow fun k hk => .inl hk)
        exact HBr.out.trans (f.below (fun k hk => (HOr.out.lt k hk).1) HBr.out.size))
       have HL9 : Hid ((scanE (lawK a1) (A.take (m + 1))).length ≤ a2.toNat) := Lib.hid (by rw [← hlen]; omega);clear hown' hgrow hat hi hz0 hz1 hz2 hz3 hW hTK OW nb hlen;clear hS
       go_wp2_with (at_builtin; refine append_run rfl (.tmp 111) (.tmp 116) 43 rfl _ _ _ rfl rfl hap ?_)
       clear hap;go_wp2_with fail;go_roundw
       case rel => exact ⟨m + 1, _, _, rfl, rfl, HMA.out, HL9, HB9, HO9⟩
       case measure => have := HMA.out; simp [intOf]; omega
      ·have hW : scanE (lawK a1) (A.take (m + 1)) = scanE (lawK a1) (A.take m) := by rw [hTK, scanE_append]; simp [scanE, hge]
       have HF : Hid (Below wL.heap.size wL w6 ∧ w6.ownsRow wL.heap.size 50 2 (.slice va (scanE (lawK a1) (A.take m)).length vc) (scanE (lawK a1) (A.take m)).length (rowsE (scanE (lawK a1) (A.take m)))) := Lib.hid ⟨chain HBr.out hS, HOr.out.kept' hS⟩;have HW := Lib.hid hW;clear hW hTK hS;go_wp2_with fail;go_roundw
       case rel => exact ⟨m + 1, va, vc, rfl, by rw [HW.out], HMA.out, by rw [HW.out]; exact HLE, Lib.hid HF.out.1, by rw [HW.out]; exact Lib.hid HF.out.2⟩
       case measure => have := HMA.out; simp [intOf]; omega
     ·have HLW : Hid (L = scanE (lawK a1) (A.take m)) := Lib.hid (by rw [← HLL.out, ← scanE_two (lawK_ok a1).1, ← HAA.out]; exact scan_cut HLE.out (.inr (by omega)))
      have R1 := ROWL.out.below HBr.out;have R2 : RowE wr (.slice va (scanE (lawK a1) (A.take m)).length vc) L := by rw [HLW.out]; exact ⟨HOr.out.1, HOr.out.2.imp id fun ⟨g, cap, cur, hv, _, r⟩ => ⟨g, cap, cur, hv, Nat.zero_le _, r⟩⟩
      have ES := Lib.hid (entries_same wr _ _ L R1 R2);clear R1 R2;go_wp2_with fail;refine ES.out.mono ?_;rintro e w8 ⟨rfl, b8⟩;have BF := Lib.hid (chain (chain BL.out HBr.out) b8);clear b8;go_wp2_with fail;go_ret;exact ⟨rfl, chain B1.out BF.out⟩
    ·have HAM : Hid (A.length ≤ m) := Lib.hid (by omega)
     have hli : ¬ (m : Int) < (A.length : Int) := by omega
     clear hlt;have HLW : Hid (L = scanE (lawK a1) (A.take m)) := Lib.hid (by rw [← HLL.out, ← scanE_two (lawK_ok a1).1, ← HAA.out]; exact scan_cut HLE.out (.inl HAM.out));have R1 := ROWL.out.below HBr.out;have R2 : RowE wr (.slice va (scanE (lawK a1) (A.take m)).length vc) L := by rw [HLW.out]; exact ⟨HOr.out.1, HOr.out.2.imp id fun ⟨g, cap, cur, hv, _, r⟩ => ⟨g, cap, cur, hv, Nat.zero_le _, r⟩⟩
     have ES := Lib.hid (entries_same wr _ _ L R1 R2);clear R1 R2;go_wp2_with fail;refine ES.out.mono ?_;rintro e w8 ⟨rfl, b8⟩;have BF := Lib.hid (chain (chain BL.out HBr.out) b8);clear b8;go_wp2_with fail;go_ret;exact ⟨rfl, chain B1.out BF.out⟩
end Go.Proofs.YtmomlhiokggfbaaGreatDoor
