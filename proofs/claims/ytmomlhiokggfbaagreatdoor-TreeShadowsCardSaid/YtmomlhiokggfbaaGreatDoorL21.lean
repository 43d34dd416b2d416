/-
 TreeShadowsLaw.
-/
import Derived.Test.YtmomlhiokggfbaaGreatDoorL20
import Derived.Test.YtmomlhiokggfbaaGreatDoorL19
import Derived.BigQuiet
import Derived.Deep.DeepCutAuto
import Derived.Deep.CutBlock
namespace Go.Proofs.YtmomlhiokggfbaaGreatDoor
open Go.RowKit
set_option maxRecDepth 20000
set_option maxHeartbeats 12800000
set_option linter.unusedVariables false
set_option linter.unusedSimpArgs false
theorem half_inS {z : Int} (h1 : -9223372036854775808 ≤ z) (h2 : z ≤ 9223372036854775807) : -9223372036854775808 ≤ z.tdiv 2 ∧ z.tdiv 2 ≤ 9223372036854775807 := by
 have h : (z.tdiv 2).natAbs = z.natAbs / 2 := by rw [Int.natAbs_tdiv]; rfl
 omega
theorem below_eq {w w' : World} (h : w = w') : Below w.heap.size w w' := h ▸ Br
structure ShI (H : HdS) (gn : Int) (E0 : List Ent) (R : List Nat) (w1 w : World) (b d x' s r' : Nat) (E : List Ent) (root : Int) : Prop where
 tr : TrK (hH H) gn E0 w1 (R ++ [b]) w d s 400 root E
 cb : w.heap[b]? = some (.cells #[.pointer (some ⟨d, 0, none⟩), .pointer (some ⟨x', 0, none⟩), .pointer (some ⟨s, 0, none⟩), .pointer (some ⟨r', 0, none⟩), .int .i64 root] 39)
 lb : w1.heap.size ≤ b
theorem ShI.put {H : HdS} {gn : Int} {E0 : List Ent} {R : List Nat} {w1 w w6 w7 : World} {b d x' s r' : Nat} {E E' : List Ent} {root q : Int} (h : ShI H gn E0 R w1 w b d x' s r' E root) (hT : TrK (hH H) gn E0 w1 (R ++ [b]) w6 d s 400 q E') (hK : KeptL (R ++ [b]) w w6) (h7 : w6.setCell ⟨b, 4, none⟩ (.int .i64 q) = w7) : ShI H gn E0 R w1 w7 b d x' s r' E' q := by
 have f : Frm (fun k => k = b) w6 w7 := by rw [← h7]; exact set_frm _
 refine ⟨hT.turn (by simp) h.lb f, ?_, h.lb⟩;rw [← h7, hss _ _ 4 _ _ _ ((hK b (by simp)).trans h.cb)]
 rfl
theorem rowE_put {w w6 w7 : World} {b : Nat} {v q : Value} {L : List Ent} (h : RowE w v L) (hn : ∀ k, v.ownBlock = some k → k < b ∨ b < k) (hK : KeptL (v.ownBlock.toList ++ [b]) w w6) (h7 : w6.setCell ⟨b, 4, none⟩ q = w7) : RowE w7 v L := by
 have f : Frm (fun k => k = b) w6 w7 := by rw [← h7]; exact set_frm _
 have h6 : RowE w6 v L := h.kept fun k hk => hK k (by simp [hk])
 refine h6.kept fun k hk => f.block k ?_ (by have := hn k hk; omega)
 exact (World.ownsRow.lt h6 k hk).2
theorem treeShadows_law (a : Option Addr) (len cap : Nat) (zs : List Int) (a' : Option Addr) (len' cap' : Nat) (zs' : List Int) (w : World) (hk : IsInts .i64 w a len cap zs) (hk' : IsInts .i64 w a' len' cap' zs') :
  Calls Tryz.prog 4 #[.slice a len cap, .slice a' len' cap'] w fun e w' => e = .returned (.bool true) ∧ Below w.heap.size w w' := by
 have BG := Hd (fun w => begins_K w 400 (by decide) (by decide));have CELLS := Hd (int_cellA hk);have CELLS' := Hd (int_cellA hk');have hlenL := ints_len hk;have hlenL' := ints_len hk';clear hk hk';go_enter Tryz.func4, Tryz.ntmps4;try simp only [List.append_eq, List.cons_append, List.nil_append]
 go_wp2_with fail;refine (examples_yes11 _).mono ?_;rintro e w1 ⟨rfl, b1⟩;have B1 := Hd b1;clear b1;go_wp2_with fail;refine (BG.out _).mono ?_;rintro e w2 ⟨b, d, x', s, r', rfl, hcb, hlo, htr⟩;have HI0 : Hid (ShI fmtH 1 [] [] w1 w2 b d x' s r' [] 0) := Hd ⟨htr, hcb, hlo⟩;clear hcb hlo htr BG
 go_upto_block 0 with fail
 go_cut [8] (fun _ wc => ∃ (E : List Ent) (root : Int), Hid (E.length ≤ 40) ∧ Hid (ShI fmtH 1 [] [] w1 wc b d x' s r' E root))
 case first =>
  go_wp2_with fail
  go_loopw [8, 9, 10] (fun i _ _ wr => ∃ (j : Nat) (E : List Ent) (root : Int), j ≤ len ∧ j ≤ 40 ∧ i = .int .i64 (j : Int) ∧ Hid (E.length ≤ j) ∧ Hid (ShI fmtH 1 [] [] w1 wr b d x' s r' E root)) (fun i _ _ _ => 41 - (intOf i).toNat)
  case atStart => exact ⟨0, [], 0, Nat.zero_le _, Nat.zero_le _, rfl, Hd (Nat.le_refl _), HI0⟩
  case round =>
   obtain ⟨j, E, root, hj1, hj2, rfl, HLN, HI⟩ := hrel
   by_cases hjl : j < len
   ·have hjli : (j : Int) < (len : Int) := by omega
    by_cases hlt : j < 40
    ·have hli : (j : Int) < 40 := by omega
     obtain ⟨x, z, hax, _, ⟨hz1, hz2⟩, CELL⟩ := CELLS.out j hjl;subst hax;have HJ0 : Hid (-9223372036854775808 ≤ (j : Int)) := Hd (by omega);have HJ1 : Hid ((j : Int) ≤ 9223372036854775807) := Hd (by omega);have HJL : Hid (j + 1 ≤ len ∧ j + 1 ≤ 40) := Hd ⟨by omega, by omega⟩;have HE5 : Hid (E.length < 2 ^ (5 + 1)) := Hd (by have := HLN.out; omega);have HN5 : Hid (2 * ([] : List Ent).length + 2 * E.length + 2 * 5 + 5 ≤ 400) := Hd (by have := HLN.out; simp; omega)
     have e4 : IntKind.i64.wrap ((j : Int) + 1) = ((j + 1 : Nat) : Int) := by rw [show (j : Int) + 1 = ((j + 1 : Nat) : Int) by omega]; exact IntWalk.i64_in _ (by omega)
     have TT := Hd (And.intro (HI.out.tr.below Br.drew) (show KeptL ([] ++ [b]) wr wr.drew from fun _ _ => rfl));clear hj1 hj2 hjl hlt;go_upto_region 10 with fail
     refine wp_region_held_drew (S := fun w' => Below w1.heap.size w1 w' ∧ w'.heap[b]? = some (.cells #[.pointer (some ⟨d, 0, none⟩), .pointer (some ⟨x', 0, none⟩), .pointer (some ⟨s, 0, none⟩), .pointer (some ⟨r', 0, none⟩), .int .i64 root] 39)) (by kernel_rfl) ⟨TT.out.1.size, HI.out.cb⟩ (fun hS => ?_);refine Hu 0 48 hS ?_;simp only [SL];refine Hu 1 49 hS ?_;simp only [SL];refine Hu 2 50 hS ?_;simp only [SL];refine Hv 3 51 ?va3x4 hS ?ha3x4 ?_
     case ha3x4 =>
      intro w9 s9;obtain ⟨q0, q1, q2, q3, q4, _⟩ := cells5 s9.2;clear s9;go_simp;try (with_reducible rfl)
     simp only [SL];refine Hu 4 52 hS ?_;simp only [SL];refine Hu 5 53 hS ?_;simp only [SL];refine Hu 6 54 hS ?_;simp only [SL];refine Hv 7 55 ?va7x8 hS ?ha7x8 ?_
     case ha7x8 =>
      intro w9 s9;obtain ⟨q0, q1, q2, q3, q4, _⟩ := cells5 s9.2;clear s9;go_simp;try (with_reducible rfl)
     simp only [SL];refine Hu 8 56 hS ?_;simp only [SL];refine Hu 9 57 hS ?_;simp only [SL];refine Hu 10 58 hS ?_;simp only [SL];refine Hv 11 59 ?va11x12 hS ?ha11x12 ?_
     case ha11x12 =>
      intro w9 s9;have ca := CELL.out w9 (chain B1.out s9.1);clear s9;go_simp;try (with_reducible rfl)
     simp only [SL];refine Hu 13 61 hS ?_;simp only [SL];refine Hs 12 (fun K HK => ?_);go_simp;go_wp2_with fail;refine (key_is _ z hz1 hz2).mono ?_;rintro e w6 ⟨rfl, b6⟩;refine HK.out _ _ ?_ ?_
     ·exact ⟨chain hS.1 b6, (b6.block _ (zl hS.2)).trans hS.2⟩
     clear HK K;try simp only [Act.put, SL]
     have hS' := And.intro (chain hS.1 b6) ((b6.block _ (zl hS.2)).trans hS.2);clear hS;have hS := hS';clear hS';have TTn := Hd (And.intro (TT.out.1.below b6) (TT.out.2.trans (TT.out.1.kept b6)));clear TT b6;have TT := TTn;clear TTn;refine Hs 14 (fun K HK => ?_);go_simp;go_wp2_with fail;refine (value_is _ (j : Int) HJ0.out HJ1.out).mono ?_;rintro e w6 ⟨rfl, b6⟩;refine HK.out _ _ ?_ ?_
     ·exact ⟨chain hS.1 b6, (b6.block _ (zl hS.2)).trans hS.2⟩
     clear HK K;try simp only [Act.put, SL]
     have hS' := And.intro (chain hS.1 b6) ((b6.block _ (zl hS.2)).trans hS.2);clear hS;have hS := hS';clear hS';have TTn := Hd (And.intro (TT.out.1.below b6) (TT.out.2.trans (TT.out.1.kept b6)));clear TT b6;have TT := TTn;clear TTn;refine Hs 15 (fun K HK => ?_);go_simp;go_wp2_with fail;refine (put_V TT.out.1 5 (by decide) HE5.out HN5.out _ (lawK_ok z) _ (lawV_size _)).mono ?_;rintro e w6 ⟨q, rfl, hT, hK⟩;refine HK.out _ _ ?_ ?_
     ·exact ⟨hT.size, (hK b (by simp)).trans hS.2⟩
     clear HK K;try simp only [Act.put, SL]
     have hS' := And.intro hT.size ((hK b (by simp)).trans hS.2);clear hS;have hS := hS';clear hS';have TTn := Hd (And.intro hT (TT.out.2.trans hK));clear TT hT hK;have TT := TTn;clear TTn;refine Hu 16 47 hS ?_;simp only [SL];refine Hu 17 64 hS ?_;simp only [SL];refine Hu 18 65 hS ?_;simp only [SL];refine Hu 19 9 hS ?_;simp only [SL];refine Hu 20 10 hS ?_;simp only [SL];refine wpAnyH_done (by kernel_rfl) ?_ _;obtain ⟨_, _, _, _, p4, pf⟩ := cells5 hS.2;have pf4 := pf 4;obtain ⟨w7, hw7⟩ : ∃ w7, w6.setCell ⟨b, 4, none⟩ (.int .i64 q) = w7 := ⟨_, rfl⟩
     have FIN := Hd (HI.out.put TT.out.1 TT.out.2 hw7);have LEN : Hid ((insE (lawK z) (lawV (j : Int)) E).length ≤ j + 1) := Hd (by have := HLN.out; have := insE_len (lawK z) (lawV (j : Int)) E; omega);clear TT hS HI;go_upto_region 9 with fail
     try rw [hw7]
     clear hw7 p4 pf pf4;go_wp2_with fail;go_roundw
     case rel => exact ⟨j + 1, _, _, HJL.out.1, HJL.out.2, rfl, LEN, FIN⟩
     case measure => have := HJL.out; simp [intOf]; omega
    ·have hli : ¬ (j : Int) < 40 := by omega
     go_wp2_with fail
     go_meet
     exact ⟨E, root, Hd (by have := HLN.out; omega), HI⟩
   ·have hjli : ¬ (j : Int) < (len : Int) := by omega
    go_wp2_with fail
    go_meet
    exact ⟨E, root, Hd (by have := HLN.out; omega), HI⟩
 case rest =>
  obtain ⟨E1, root, HLN, HI⟩ := hcut;clear CELLS hlenL HI0;have TT := Hd (And.intro (HI.out.tr.below Br.drew) (show KeptL ([] ++ [b]) wc wc.drew from fun _ _ => rfl));have HE6 : Hid (E1.length ≤ 600) := Hd (by have := HLN.out; omega);have HE3 : Hid (E1.length ≤ 300) := Hd (by have := HLN.out; omega);go_upto_region 14 with fail
  refine wp_region_held_drew (S := fun w' => Below w1.heap.size w1 w' ∧ w'.heap[b]? = some (.cells #[.pointer (some ⟨d, 0, none⟩), .pointer (some ⟨x', 0, none⟩), .pointer (some ⟨s, 0, none⟩), .pointer (some ⟨r', 0, none⟩), .int .i64 root] 39)) (by kernel_rfl) ⟨TT.out.1.size, HI.out.cb⟩ (fun hS => ?_);refine Hu 0 72 hS ?_;simp only [SL];refine Hu 1 73 hS ?_;simp only [SL];refine Hu 2 74 hS ?_;simp only [SL];refine Hv 3 75 ?vc3x4 hS ?hc3x4 ?_
  case hc3x4 =>
   intro w9 s9;obtain ⟨q0, q1, q2, q3, q4, _⟩ := cells5 s9.2;clear s9;go_simp;try (with_reducible rfl)
  simp only [SL];refine Hu 4 76 hS ?_;simp only [SL];refine Hu 5 77 hS ?_;simp only [SL];refine Hu 6 78 hS ?_;simp only [SL];refine Hv 7 79 ?vc7x8 hS ?hc7x8 ?_
  case hc7x8 =>
   intro w9 s9;obtain ⟨q0, q1, q2, q3, q4, _⟩ := cells5 s9.2;clear s9;go_simp;try (with_reducible rfl)
  simp only [SL];refine Hs 8 (fun K HK => ?_);go_simp;go_wp2_with fail;refine (commit_V TT.out.1 (by decide)).mono ?_;rintro e w6 ⟨rfl, H', hHr, hT, hK⟩;refine HK.out _ _ ?_ ?_
  ·exact ⟨hT.size, (hK b (by simp)).trans hS.2⟩
  clear HK K;try simp only [Act.put, SL]
  have hS' := And.intro hT.size ((hK b (by simp)).trans hS.2);clear hS;have hS := hS';clear hS';have TTn := Hd (And.intro hT (TT.out.2.trans hK));clear TT hT hK;have TT := TTn;clear TTn;have HHR := Hd hHr;clear hHr;refine Hu 9 81 hS ?_;simp only [SL];refine wpAnyH_done (by kernel_rfl) ?_ _;obtain ⟨wB, hwB⟩ : ∃ wB, wB = w6 := ⟨_, rfl⟩
  subst hwB;obtain ⟨u, hu⟩ : ∃ u, usH H' 400 = u := ⟨_, rfl⟩
  have HU := Hd hu;have CBB := Hd hS.2;have HLB := Hd HI.out.lb;have TT2 := Hd (And.intro (TT.out.1.below Br.drew) (show KeptL [b] wB wB.drew from fun _ _ => rfl));have HBW : Hid (b < wB.drew.heap.size) := Hd (TT2.out.1.lt b (by simp));clear TT;have TT := TT2;clear TT2 hS hu HI;go_upto_region 16 with fail
  refine wp_region_held_drew (S := fun w' => Below w1.heap.size w1 w' ∧ w'.heap[b]? = some (.cells #[.pointer (some ⟨d, 0, none⟩), .pointer (some ⟨x', 0, none⟩), .pointer (some ⟨s, 0, none⟩), .pointer (some ⟨r', 0, none⟩), .int .i64 root] 39)) (by kernel_rfl) ⟨TT.out.1.size, CBB.out⟩ (fun hS => ?_);refine Hu 0 83 hS ?_;simp only [SL];refine Hu 1 84 hS ?_;simp only [SL];refine Hu 2 85 hS ?_;simp only [SL];refine Hv 3 86 ?vs3x4 hS ?hs3x4 ?_
  case hs3x4 =>
   intro w9 s9;obtain ⟨q0, q1, q2, q3, q4, _⟩ := cells5 s9.2;clear s9;go_simp;try (with_reducible rfl)
  simp only [SL];refine Hu 4 87 hS ?_;simp only [SL];refine Hu 5 88 hS ?_;simp only [SL];refine Hu 6 89 hS ?_;simp only [SL];refine Hv 7 90 ?vs7x8 hS ?hs7x8 ?_
  case hs7x8 =>
   intro w9 s9;obtain ⟨q0, q1, q2, q3, q4, _⟩ := cells5 s9.2;clear s9;go_simp;try (with_reducible rfl)
  simp only [SL];refine Hs 8 (fun K HK => ?_);go_simp;go_wp2_with fail;refine (scan_K TT.out.1 HE6.out _ _).mono ?_;rintro e w6 ⟨v, rfl, hrv, hT, hK, hnv⟩;refine HK.out _ _ ?_ ?_
  ·exact ⟨hT.size, (hK b (by simp)).trans hS.2⟩
  clear HK K;try simp only [Act.put, SL]
  have hS' := And.intro hT.size ((hK b (by simp)).trans hS.2);clear hS;have hS := hS';clear hS';have TTn := Hd (And.intro hT (TT.out.2.trans hK));clear TT hT hK;have TT := TTn;clear TTn;refine Hu 9 82 hS ?_;simp only [SL];refine Hu 10 92 hS ?_;simp only [SL];refine Hu 11 93 hS ?_;simp only [SL];refine Hu 12 11 hS ?_;simp only [SL];refine Hu 13 12 hS ?_;simp only [SL];refine wpAnyH_done (by kernel_rfl) ?_ _;obtain ⟨A, hA⟩ : ∃ A, (scanE 0 E1).take (Int.toNat 1000) = A := ⟨_, rfl⟩
  rw [hA] at hrv;have HAE := Hd hA;obtain ⟨va0, vc0, rfl⟩ := hrv.shape;have HRV := Hd hrv;have HNB : Hid (∀ k, (Value.slice va0 A.length vc0).ownBlock = some k → k < b ∨ b < k) := Hd (fun k hk => by have := hnv k hk; have := HBW.out; omega);obtain ⟨wA, hwA⟩ : ∃ wA, wA = w6 := ⟨_, rfl⟩
  subst hwA;have CBA := Hd hS.2;have TT2 := Hd (And.intro (TT.out.1.below Br.drew) (show KeptL ((Value.slice va0 A.length vc0).ownBlock.toList ++ [b]) wA wA.drew from fun _ _ => rfl));clear TT;have TT := TT2;clear TT2 hS hrv hA hnv;go_upto_region 17 with fail
  refine wp_region_held_drew (S := fun w' => Below w1.heap.size w1 w' ∧ w'.heap[b]? = some (.cells #[.pointer (some ⟨d, 0, none⟩), .pointer (some ⟨x', 0, none⟩), .pointer (some ⟨s, 0, none⟩), .pointer (some ⟨r', 0, none⟩), .int .i64 root] 39)) (by kernel_rfl) ⟨TT.out.1.size, CBA.out⟩ (fun hS => ?_);refine Hu 0 95 hS ?_;simp only [SL];refine Hu 1 96 hS ?_;simp only [SL];refine Hu 2 97 hS ?_;simp only [SL];refine Hv 3 98 ?vq3x4 hS ?hq3x4 ?_
  case hq3x4 =>
   intro w9 s9;obtain ⟨q0, q1, q2, q3, q4, _⟩ := cells5 s9.2;clear s9;go_simp;try (with_reducible rfl)
  simp only [SL];refine Hu 4 99 hS ?_;simp only [SL];refine Hu 5 100 hS ?_;simp only [SL];refine Hu 6 101 hS ?_;simp only [SL];refine Hv 7 102 ?vq7x8 hS ?hq7x8 ?_
  case hq7x8 =>
   intro w9 s9;obtain ⟨q0, q1, q2, q3, q4, _⟩ := cells5 s9.2;clear s9;go_simp;try (with_reducible rfl)
  simp only [SL];refine Hs 8 (fun K HK => ?_);go_simp;go_wp2_with fail;have PV := pages_V TT.out.1 HHR.out HE3.out;rw [HU.out] at PV;refine PV.mono ?_;rintro e w6 ⟨pa, pc, rfl, hT, hK⟩;refine HK.out _ _ ?_ ?_
  ·exact ⟨hT.size, (hK b (by simp)).trans hS.2⟩
  clear HK K;try simp only [Act.put, SL]
  have hS' := And.intro hT.size ((hK b (by simp)).trans hS.2);clear hS;have hS := hS';clear hS';have TTn := Hd (And.intro hT (TT.out.2.trans hK));clear TT hT hK;have TT := TTn;clear TTn;clear PV;refine Hu 9 94 hS ?_;simp only [SL];refine Hu 10 104 hS ?_;simp only [SL];refine Hu 11 105 hS ?_;simp only [SL];refine Hu 12 13 hS ?_;simp only [SL];refine Hu 13 14 hS ?_;simp only [SL];refine wpAnyH_done (by kernel_rfl) ?_ _;obtain ⟨wL, hwL⟩ : ∃ wL, wL = w6 := ⟨_, rfl⟩
  subst hwL;have HJ0 : Hid (ShI H' 2 E1 ((Value.slice va0 A.length vc0).ownBlock.toList) w1 wL b d x' s r' E1 root ∧ RowE wL (Value.slice va0 A.length vc0) A) := Hd ⟨⟨TT.out.1.hh, hS.2, HLB.out⟩, HRV.out.kept fun k hk => TT.out.2 k (by simp [hk])⟩;obtain ⟨q0, q1, q2, q3, q4, _⟩ := cells5 hS.2;clear TT hS HRV
  go_upto_block 2 with fail
  go_cut [16] (fun _ wc => ∃ (E : List Ent) (root : Int), Hid (E.length ≤ E1.length + 60) ∧ Hid (ShI H' 2 E1 ((Value.slice va0 A.length vc0).ownBlock.toList) w1 wc b d x' s r' E root ∧ RowE wc (Value.slice va0 A.length vc0) A))
  case first =>
   go_wp2_with fail
   go_loopw [16, 17, 18, 19, 20, 21] (fun i _ _ _ _ _ wr => ∃ (j : Nat) (E : List Ent) (root : Int), j ≤ len' ∧ j ≤ 60 ∧ i = .int .i64 (j : Int) ∧ Hid (E.length ≤ E1.length + j) ∧ Hid (ShI H' 2 E1 ((Value.slice va0 A.length vc0).ownBlock.toList) w1 wr b d x' s r' E root ∧ RowE wr (Value.slice va0 A.length vc0) A)) (fun i _ _ _ _ _ _ => 61 - (intOf i).toNat)
   case atStart => exact ⟨0, E1, _, Nat.zero_le _, Nat.zero_le _, rfl, Hd (Nat.le_refl _), HJ0⟩
   case round =>
    obtain ⟨j, E, root, hj1, hj2, rfl, HLJ, HJ⟩ := hrel
    by_cases hjl : j < len'
    ·have hjli : (j : Int) < (len' : Int) := by omega
     by_cases hlt : j < 60
     ·have hli : (j : Int) < 60 := by omega
      obtain ⟨x, z, hax, _, ⟨hz1, hz2⟩, CELL⟩ := CELLS'.out j hjl;subst hax;have HZ := Hd (And.intro hz1 hz2);have hhz := half_inS hz1 hz2;have ezh : IntKind.i64.wrap (z.tdiv 2) = z.tdiv 2 := IntWalk.i64_in _ (by omega);obtain ⟨zh, hzh⟩ : ∃ zh, z.tdiv 2 = zh := ⟨_, rfl⟩
      obtain ⟨zr, hzr⟩ : ∃ zr, z.tmod 2 = zr := ⟨_, rfl⟩
      rw [hzh] at hhz ezh;have HZH := Hd hhz;have HJL : Hid (j + 1 ≤ len' ∧ j + 1 ≤ 60) := Hd ⟨by omega, by omega⟩;have HE5 : Hid (E.length < 2 ^ (6 + 1)) := Hd (by have := HLJ.out; have := HLN.out; omega);have HN5 : Hid (2 * E1.length + 2 * E.length + 2 * 6 + 5 ≤ 400) := Hd (by have := HLJ.out; have := HLN.out; omega);have e4 : IntKind.i64.wrap ((j : Int) + 1) = ((j + 1 : Nat) : Int) := by rw [show (j : Int) + 1 = ((j + 1 : Nat) : Int) by omega]; exact IntWalk.i64_in _ (by omega)
      have ca := CELL.out wr (chain B1.out HJ.out.1.tr.size);have TT := Hd (And.intro (HJ.out.1.tr.below Br.drew) (show KeptL ((Value.slice va0 A.length vc0).ownBlock.toList ++ [b]) wr wr.drew from fun _ _ => rfl));clear hj1 hj2 hjl hlt hz1 hz2 hhz
      by_cases hz0 : zr = 0
      ·have hzb : (zr == 0) = true := by rw [hz0]; rfl
       clear hz0;go_upto_region 23 with fail
       clear ca;refine wp_region_held_drew (S := fun w' => Below w1.heap.size w1 w' ∧ w'.heap[b]? = some (.cells #[.pointer (some ⟨d, 0, none⟩), .pointer (some ⟨x', 0, none⟩), .pointer (some ⟨s, 0, none⟩), .pointer (some ⟨r', 0, none⟩), .int .i64 root] 39)) (by kernel_rfl) ⟨TT.out.1.size, HJ.out.1.cb⟩ (fun hS => ?_);refine Hu 0 127 hS ?_;simp only [SL];refine Hu 1 128 hS ?_;simp only [SL];refine Hu 2 129 hS ?_;simp only [SL];refine Hv 3 130 ?vp3x4 hS ?hp3x4 ?_
       case hp3x4 =>
        intro w9 s9;obtain ⟨q0, q1, q2, q3, q4, _⟩ := cells5 s9.2;clear s9;go_simp;try (with_reducible rfl)
       simp only [SL];refine Hu 4 131 hS ?_;simp only [SL];refine Hu 5 132 hS ?_;simp only [SL];refine Hu 6 133 hS ?_;simp only [SL];refine Hv 7 134 ?vp7x8 hS ?hp7x8 ?_
       case hp7x8 =>
        intro w9 s9;obtain ⟨q0, q1, q2, q3, q4, _⟩ := cells5 s9.2;clear s9;go_simp;try (with_reducible rfl)
       simp only [SL];refine Hu 8 135 hS ?_;simp only [SL];refine Hu 9 136 hS ?_;simp only [SL];refine Hu 10 137 hS ?_;simp only [SL];refine Hv 11 138 ?vp11x12 hS ?hp11x12 ?_
       case hp11x12 =>
        intro w9 s9;have ca := CELL.out w9 (chain B1.out s9.1);clear s9;go_simp;try (with_reducible rfl)
       simp only [SL];refine Hu 12 139 hS ?_;simp only [SL];refine Hu 14 141 hS ?_;simp only [SL];refine Hu 15 142 hS ?_;simp only [SL];refine Hu 16 143 hS ?_;simp only [SL];refine Hv 17 144 ?vp17x17 hS ?hp17x17 ?_
       case hp17x17 =>
        intro w9 s9;have ca := CELL.out w9 (chain B1.out s9.1);clear s9;go_simp;try (with_reducible rfl)
       simp only [SL];refine Hs 13 (fun K HK => ?_);go_simp;go_wp2_with fail;refine (key_is _ zh HZH.out.1 HZH.out.2).mono ?_;rintro e w6 ⟨rfl, b6⟩;refine HK.out _ _ ?_ ?_
       ·exact ⟨chain hS.1 b6, (b6.block _ (zl hS.2)).trans hS.2⟩
       clear HK K;try simp only [Act.put, SL]
       have hS' := And.intro (chain hS.1 b6) ((b6.block _ (zl hS.2)).trans hS.2);clear hS;have hS := hS';clear hS';have TTn := Hd (And.intro (TT.out.1.below b6) (TT.out.2.trans (TT.out.1.kept b6)));clear TT b6;have TT := TTn;clear TTn;refine Hs 18 (fun K HK => ?_);go_simp;go_wp2_with fail;refine (value_is _ z HZ.out.1 HZ.out.2).mono ?_;rintro e w6 ⟨rfl, b6⟩;refine HK.out _ _ ?_ ?_
       ·exact ⟨chain hS.1 b6, (b6.block _ (zl hS.2)).trans hS.2⟩
       clear HK K;try simp only [Act.put, SL]
       have hS' := And.intro (chain hS.1 b6) ((b6.block _ (zl hS.2)).trans hS.2);clear hS;have hS := hS';clear hS';have TTn := Hd (And.intro (TT.out.1.below b6) (TT.out.2.trans (TT.out.1.kept b6)));clear TT b6;have TT := TTn;clear TTn;refine Hs 19 (fun K HK => ?_);go_simp;go_wp2_with fail;refine (put_V TT.out.1 6 (by decide) HE5.out HN5.out _ (lawK_ok zh) _ (lawV_size _)).mono ?_;rintro e w6 ⟨q, rfl, hT, hK⟩;refine HK.out _ _ ?_ ?_
       ·exact ⟨hT.size, (hK b (by simp)).trans hS.2⟩
       clear HK K;try simp only [Act.put, SL]
       have hS' := And.intro hT.size ((hK b (by simp)).trans hS.2);clear hS;have hS := hS';clear hS';have TTn := Hd (And.intro hT (TT.out.2.trans hK));clear TT hT hK;have TT := TTn;clear TTn;refine Hu 20 126 hS ?_;simp only [SL];refine Hu 21 147 hS ?_;simp only [SL];refine Hu 22 148 hS ?_;simp only [SL];refine Hu 23 17 hS ?_;simp only [SL];refine Hu 24 18 hS ?_;simp only [SL];refine wpAnyH_done (by kernel_rfl) ?_ _;obtain ⟨_, _, _, _, p4, pf⟩ := cells5 hS.2;have pf4 := pf 4;clear pf;obtain ⟨w7, hw7⟩ : ∃ w7, w6.setCell ⟨b, 4, none⟩ (.int .i64 q) = w7 := ⟨_, rfl⟩
       have FIN := Hd (And.intro (HJ.out.1.put TT.out.1 TT.out.2 hw7) (rowE_put HJ.out.2 HNB.out TT.out.2 hw7));have LEN : Hid ((insE (lawK zh) (lawV z) E).length ≤ E1.length + (j + 1)) := Hd (by have := HLJ.out; have := insE_len (lawK zh) (lawV z) E; omega);clear TT hS HJ;go_upto_region 21 with fail
       try rw [hw7]
       clear hw7 pf4 p4;go_wp2_with fail;go_roundw
       case rel => exact ⟨j + 1, _, _, HJL.out.1, HJL.out.2, rfl, LEN, FIN⟩
       case measure => have := HJL.out; simp [intOf]; omega
      ·have hzb : (zr == 0) = false := beq_eq_false_iff_ne.2 hz0
       clear hz0;go_upto_region 27 with fail
       clear ca;refine wp_region_held_drew (S := fun w' => Below w1.heap.size w1 w' ∧ w'.heap[b]? = some (.cells #[.pointer (some ⟨d, 0, none⟩), .pointer (some ⟨x', 0, none⟩), .pointer (some ⟨s, 0, none⟩), .pointer (some ⟨r', 0, none⟩), .int .i64 root] 39)) (by kernel_rfl) ⟨TT.out.1.size, HJ.out.1.cb⟩ (fun hS => ?_);refine Hu 0 156 hS ?_;simp only [SL];refine Hu 1 157 hS ?_;simp only [SL];refine Hu 2 158 hS ?_;simp only [SL];refine Hv 3 159 ?vd3x4 hS ?hd3x4 ?_
       case hd3x4 =>
        intro w9 s9;obtain ⟨q0, q1, q2, q3, q4, _⟩ := cells5 s9.2;clear s9;go_simp;try (with_reducible rfl)
       simp only [SL];refine Hu 4 160 hS ?_;simp only [SL];refine Hu 5 161 hS ?_;simp only [SL];refine Hu 6 162 hS ?_;simp only [SL];refine Hv 7 163 ?vd7x8 hS ?hd7x8 ?_
       case hd7x8 =>
        intro w9 s9;obtain ⟨q0, q1, q2, q3, q4, _⟩ := cells5 s9.2;clear s9;go_simp;try (with_reducible rfl)
       simp only [SL];refine Hu 8 164 hS ?_;simp only [SL];refine Hu 9 165 hS ?_;simp only [SL];refine Hu 10 166 hS ?_;simp only [SL];refine Hv 11 167 ?vd11x12 hS ?hd11x12 ?_
       case hd11x12 =>
        intro w9 s9;have ca := CELL.out w9 (chain B1.out s9.1);clear s9;go_simp;try (with_reducible rfl)
       simp only [SL];refine Hu 12 168 hS ?_;simp only [SL];refine Hs 13 (fun K HK => ?_);go_simp;go_wp2_with fail;refine (key_is _ zh HZH.out.1 HZH.out.2).mono ?_;rintro e w6 ⟨rfl, b6⟩;refine HK.out _ _ ?_ ?_
       ·exact ⟨chain hS.1 b6, (b6.block _ (zl hS.2)).trans hS.2⟩
       clear HK K;try simp only [Act.put, SL]
       have hS' := And.intro (chain hS.1 b6) ((b6.block _ (zl hS.2)).trans hS.2);clear hS;have hS := hS';clear hS';have TTn := Hd (And.intro (TT.out.1.below b6) (TT.out.2.trans (TT.out.1.kept b6)));clear TT b6;have TT := TTn;clear TTn;refine Hs 14 (fun K HK => ?_);go_simp;go_wp2_with fail;refine (del_V TT.out.1 6 (by decide) HE5.out HN5.out _ (lawK_ok zh)).mono ?_;rintro e w6 ⟨q, rfl, hT, hK⟩;refine HK.out _ _ ?_ ?_
       ·exact ⟨hT.size, (hK b (by simp)).trans hS.2⟩
       clear HK K;try simp only [Act.put, SL]
       have hS' := And.intro hT.size ((hK b (by simp)).trans hS.2);clear hS;have hS := hS';clear hS';have TTn := Hd (And.intro hT (TT.out.2.trans hK));clear TT hT hK;have TT := TTn;clear TTn;refine Hu 15 155 hS ?_;simp only [SL];refine Hu 16 171 hS ?_;simp only [SL];refine Hu 17 172 hS ?_;simp only [SL];refine Hu 18 173 hS ?_;simp only [SL];refine Hu 19 19 hS ?_;simp only [SL];refine Hu 20 20 hS ?_;simp only [SL];refine Hu 21 21 hS ?_;simp only [SL];refine wpAnyH_done (by kernel_rfl) ?_ _;obtain ⟨_, _, _, _, p4, pf⟩ := cells5 hS.2;have pf4 := pf 4;clear pf
       obtain ⟨w7, hw7⟩ : ∃ w7, w6.setCell ⟨b, 4, none⟩ (.int .i64 q) = w7 := ⟨_, rfl⟩
       have FIN := Hd (And.intro (HJ.out.1.put TT.out.1 TT.out.2 hw7) (rowE_put HJ.out.2 HNB.out TT.out.2 hw7));have LEN : Hid ((delE (lawK zh) E).length ≤ E1.length + (j + 1)) := Hd (by have := HLJ.out; have := delE_len (lawK zh) E; omega);clear TT hS HJ;go_upto_region 21 with fail
       try rw [hw7]
       clear hw7 pf4 p4;go_wp2_with fail;go_roundw
       case rel => exact ⟨j + 1, _, _, HJL.out.1, HJL.out.2, rfl, LEN, FIN⟩
       case measure => have := HJL.out; simp [intOf]; omega
     ·have hli : ¬ (j : Int) < 60 := by omega
      go_wp2_with fail
      go_meet
      exact ⟨E, root, Hd (by have := HLJ.out; omega), HJ⟩
    ·have hjli : ¬ (j : Int) < (len' : Int) := by omega
     go_wp2_with fail
     go_meet
     exact ⟨E, root, Hd (by have := HLJ.out; omega), HJ⟩
  case rest =>
   obtain ⟨E, root2, HLJ, HJ⟩ := hcut;clear CELLS' hlenL' HJ0;have OS := Hd (show _ from oldScan_V HJ.out.1.tr HE3.out 0 1000);obtain ⟨q0, q1, q2, q3, q4, _⟩ := cells5 HJ.out.1.cb;have HHR2 := HHR.out;rw [HHR2, HAE.out] at OS;clear HHR2;go_wp2_with fail;refine OS.out.mono ?_;rintro e w6 ⟨v2, rfl, hr2, hT2, hK2⟩;clear q0 q1 q2 q3 q4;obtain ⟨va2, vc2, rfl⟩ := hr2.shape;have ROW := Hd (HJ.out.2.kept fun k hk => hK2 k (by simp [hk]));have ES := Hd (entries_same w6 _ _ A ROW.out hr2);have CB6 := Hd ((hK2 b (by simp)).trans HJ.out.1.cb)
   have TT6 := Hd (hT2.sub (R' := (Value.slice va0 A.length vc0).ownBlock.toList ++ [b]) (fun k hk => by simp only [List.mem_append] at hk ⊢; exact .inr hk));clear hr2 hT2 hK2 OS HJ;go_wp2_with fail;refine ES.out.mono ?_;rintro e w7 ⟨rfl, b7⟩;have ROW7 := Hd (ROW.out.below b7);have CB7 := Hd ((b7.block _ (zl CB6.out)).trans CB6.out);have RV := Hd (roll_V (TT6.out.below b7));obtain ⟨q0, q1, q2, q3, q4, _⟩ := cells5 CB7.out;clear b7 ROW CB6 TT6 ES;go_wp2_with fail;refine RV.out.mono ?_;rintro e w8 ⟨rfl, hT8, hK8⟩;clear q0 q1 q2 q3 q4
   have ROW8 := Hd (ROW7.out.kept fun k hk => hK8 k (by simp [hk]));have CB8 := Hd ((hK8 b (by simp)).trans CB7.out);have TT := Hd (And.intro (hT8.below Br.drew) (show KeptL ((Value.slice va0 A.length vc0).ownBlock.toList ++ [b]) w8 w8.drew from fun _ _ => rfl));clear hT8 hK8 ROW7 CB7 RV;go_upto_region 34 with fail
   refine wp_region_held_drew (S := fun w' => Below w1.heap.size w1 w' ∧ w'.heap[b]? = some (.cells #[.pointer (some ⟨d, 0, none⟩), .pointer (some ⟨x', 0, none⟩), .pointer (some ⟨s, 0, none⟩), .pointer (some ⟨r', 0, none⟩), .int .i64 root2] 39)) (by kernel_rfl) ⟨TT.out.1.size, CB8.out⟩ (fun hS => ?_);refine Hu 0 198 hS ?_;simp only [SL];refine Hu 1 199 hS ?_;simp only [SL];refine Hu 2 200 hS ?_;simp only [SL];refine Hv 3 201 ?vg3x4 hS ?hg3x4 ?_
   case hg3x4 =>
    intro w9 s9;obtain ⟨q0, q1, q2, q3, q4, _⟩ := cells5 s9.2;clear s9;go_simp;try (with_reducible rfl)
   simp only [SL];refine Hu 4 202 hS ?_;simp only [SL];refine Hu 5 203 hS ?_;simp only [SL];refine Hu 6 204 hS ?_;simp only [SL];refine Hv 7 205 ?vg7x8 hS ?hg7x8 ?_
   case hg7x8 =>
    intro w9 s9;obtain ⟨q0, q1, q2, q3, q4, _⟩ := cells5 s9.2;clear s9;go_simp;try (with_reducible rfl)
   simp only [SL];refine Hs 8 (fun K HK => ?_);go_simp;go_wp2_with fail;refine (root_V TT.out.1).mono ?_;rintro e w6 ⟨rfl, hw6⟩;have b6 := below_eq hw6;clear hw6;refine HK.out _ _ ?_ ?_
   ·exact ⟨chain hS.1 b6, (b6.block _ (zl hS.2)).trans hS.2⟩
   clear HK K;try simp only [Act.put, SL]
   have hS' := And.intro (chain hS.1 b6) ((b6.block _ (zl hS.2)).trans hS.2);clear hS;have hS := hS';clear hS';have TTn := Hd (And.intro (TT.out.1.below b6) (TT.out.2.trans (TT.out.1.kept b6)));clear TT b6;have TT := TTn;clear TTn;refine Hs 9 (fun K HK => ?_);go_simp;go_wp2_with fail;refine (scan_K TT.out.1 HE6.out _ _).mono ?_;rintro e w6 ⟨v3, rfl, hr3, hT, hK, hn3⟩;refine HK.out _ _ ?_ ?_
   ·exact ⟨hT.size, (hK b (by simp)).trans hS.2⟩
   clear HK K;try simp only [Act.put, SL]
   have hS' := And.intro hT.size ((hK b (by simp)).trans hS.2);clear hS;have hS := hS';clear hS';have TTn := Hd (And.intro hT (TT.out.2.trans hK));clear TT hT hK;have TT := TTn;clear TTn;refine Hu 10 197 hS ?_;simp only [SL];refine Hu 11 208 hS ?_;simp only [SL];refine Hu 12 209 hS ?_;simp only [SL];refine Hu 13 25 hS ?_;simp only [SL];refine Hu 14 26 hS ?_;simp only [SL];refine wpAnyH_done (by kernel_rfl) ?_ _;rw [HAE.out] at hr3;obtain ⟨va3, vc3, rfl⟩ := hr3.shape;have ES := Hd (entries_same w6 _ _ A (ROW8.out.kept fun k hk => TT.out.2 k (by simp [hk])) hr3)
   have TQ := Hd (TT.out.1.sub (R' := [b]) (fun k hk => by simp only [List.mem_append] at hk ⊢; exact .inr (.inr hk)));have CB9 := Hd hS.2;clear TT hS hr3 hn3 ROW8 CB8;go_wp2_with fail;refine ES.out.mono ?_;rintro e w9 ⟨rfl, b9⟩;have TQ9 := Hd (TQ.out.below b9);have CB9' := Hd ((b9.block _ (zl CB9.out)).trans CB9.out);have US := used_V TQ9.out;rw [HU.out] at US;have USH := Hd US;obtain ⟨q0, q1, q2, q3, q4, _⟩ := cells5 CB9'.out;have huu : ((u : Int) == (u : Int)) = true := by simp
   clear b9 TQ CB9 ES US;go_wp2_with fail;refine USH.out.mono ?_;rintro e wa ⟨⟨ua, uc, rfl⟩, ba⟩;clear q0 q1 q2 q3 q4;have TQa := Hd (TQ9.out.below ba);have CBa := Hd ((ba.block _ (zl CB9'.out)).trans CB9'.out);have RT := Hd (root_V TQa.out);rw [HHR.out] at RT;obtain ⟨q0, q1, q2, q3, q4, _⟩ := cells5 CBa.out;have hrr : (root == root) = true := by simp
   clear ba TQ9 CB9' USH;go_wp2_with fail;refine RT.out.mono ?_;rintro e wb ⟨rfl, rfl⟩;have BF := Hd TQa.out.size;clear q0 q1 q2 q3 q4 TQa CBa RT;go_wp2_with fail;go_ret;exact ⟨rfl, chain B1.out BF.out⟩
end Go.Proofs.YtmomlhiokggfbaaGreatDoor
