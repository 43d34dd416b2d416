/-
 TxnReadsLaw.
-/
import Derived.Test.YtmomlhiokggfbaaGreatDoorC20
import Derived.Deep.DeepCutAuto
import Derived.Deep.CutBlock
namespace Go.Proofs.YtmomlhiokggfbaaGreatDoor
open Go.RowKit
set_option maxRecDepth 20000
set_option maxHeartbeats 12800000
set_option linter.unusedVariables false
set_option linter.unusedSimpArgs false
theorem u16_cellR {w : World} {a : Option Addr} {len cap : Nat} {zs : List Int} (hk : IsInts .u16 w a len cap zs) (j : Nat) (hj : j < len) : ∃ (x : Addr) (z : Int), a = some x ∧ zs.getD j 0 = z ∧ (0 ≤ z ∧ z ≤ 65535) ∧ Hid (∀ wr, Below w.heap.size w wr → wr.cell? (x.add j) = some (.int .u16 z)) := by
 rcases hk with ⟨rfl, rfl, rfl, rfl⟩ | ⟨x, rfl, h1, h2, h3, h4, h5⟩
 ·omega
 ·have hjl : j < zs.length := by omega
  refine ⟨x, _, rfl, rfl, ?_, Hd fun wr hb => ?_⟩
  ·have hm : zs.getD j 0 ∈ zs := by
    rw [List.getD_eq_getElem?_getD, List.getElem?_eq_getElem hjl];exact List.getElem_mem hjl
   have hw := h5 _ hm;generalize zs.getD j 0 = z at hw ⊢;simp [Lit.wf] at hw;have e1 : IntKind.u16.min = 0 := by rfl
   have e2 : IntKind.u16.max = 65535 := by rfl
   omega
  ·have hc := h4 j hjl
   have hlt : (x.add j).block < w.heap.size := by
    unfold World.cell? at hc
    cases hq : w.heap[(x.add j).block]? with
    | none => rw [hq] at hc; simp at hc
    | some b => exact (Array.getElem?_eq_some_iff.1 hq).1
   exact (hb.cell hlt).trans hc
theorem one_numR (n : Nat) (h : n < 256) (w : World) : (convert 62 9 (.slice (some ⟨w.heap.size, 0, none⟩) 1 1)).run Tryz.prog (w.alloc (.cells #[.int .u8 (n : Int)] 5)) = .ok (.string (Str [UInt8.ofNat n])) (w.alloc (.cells #[.int .u8 (n : Int)] 5)) := by
 have hrow : Byt 5 (w.alloc (.cells #[vb (UInt8.ofNat n)] 5)) w.heap.size [UInt8.ofNat n] := heap_alloc_new w _;have := hrow.conv 1 1 (Nat.le_refl _);have e : vb (UInt8.ofNat n) = .int .u8 (n : Int) := by unfold vb; rw [UInt8.toNat_ofNat', Nat.mod_eq_of_lt (by omega)]
 rw [e] at this;exact this
structure BpR (L : List (Int × Value)) (E : List Ent) : Prop where
 nd : (L.map (·.1)).Nodup
 ge : ∀ k, getW L k = (getE k E).map fun _ => Value.bool true
 so : SortE E
 ky : ∀ k ∈ keysE E, 0 ≤ k ∧ k ≤ 18446744073709551615
theorem BpR.start : BpR [] [] := ⟨List.nodup_nil, fun k => rfl, List.Pairwise.nil, fun k h => by simp [keysE] at h⟩
theorem BpR.put {L : List (Int × Value)} {E : List Ent} (h : BpR L E) {k : Int} (hk : 0 ≤ k ∧ k ≤ 18446744073709551615) (v : ByteArray) : BpR (setW L k (.bool true)) (insE k v E) := by
 refine ⟨setW_nodup _ _ h.nd, fun x => ?_, sortE_ins h.so _ _, fun x hx => ?_⟩
 ·rw [getW_set, getE_ins]
  split
  ·rfl
  ·exact h.ge x
 ·rcases mem_insE.1 hx with rfl | hx
  ·exact hk
  ·exact h.ky x hx
theorem BpR.del {L : List (Int × Value)} {E : List Ent} (h : BpR L E) (k : Int) : BpR (delW L k) (delE k E) := by
 refine ⟨delW_nodup _ h.nd, fun x => ?_, sortE_del h.so _, fun x hx => h.ky x (mem_delE.1 hx).2⟩;rw [getW_del h.nd, getE_del]
 split
 ·rfl
 ·exact h.ge x
theorem BpR.len {L : List (Int × Value)} {E : List Ent} (h : BpR L E) : L.length = E.length := by
 have hp : (L.map (·.1)).Perm (keysE E) := (List.perm_ext_iff_of_nodup h.nd (sortE_nodup h.so)).2 fun x => by
  rw [← getW_mem, ← getB_iff, h.ge x];unfold getB;rw [Option.isSome_map]
 have := hp.length_eq;unfold keysE at this
 simpa using this
theorem BpR.look {L : List (Int × Value)} {E : List Ent} (h : BpR L E) (k : Int) : (getW L k).getD (.bool false) = .bool (getB k E) := by
 rw [h.ge k];unfold getB
 cases getE k E with
 | none => rfl
 | some v => rfl
theorem BpR.all {L : List (Int × Value)} {E : List Ent} (h : BpR L E) : scanE 0 E = E := List.filter_eq_self.2 fun e he => decide_eq_true (h.ky e.1 (mem_keysE.2 ⟨e.2, he⟩)).1
theorem BpR.at {L : List (Int × Value)} {E : List Ent} (h : BpR L E) {j : Nat} {k : Int} {v : ByteArray} (hj : E[j]? = some (k, v)) : getV k E = v ∧ getB k E = true := getE_some ((getE_mem h.so).1 (List.mem_of_getElem? hj))
structure RdI (w1 w : World) (t m d s : Nat) (E : List Ent) (root : Int) (L : List (Int × Value)) : Prop where
 tr : TrR w1 [t, m] w d s 300 root E
 tc : w.heap[t]? = some (txC s root 0 false)
 mp : MapW w m L
 lt : w1.heap.size ≤ t
 lm : w1.heap.size ≤ m
 ne : t ≠ m
theorem RdI.below {w1 w w' : World} {t m d s : Nat} {E : List Ent} {root : Int} {L : List (Int × Value)} (h : RdI w1 w t m d s E root L) (b : Below w.heap.size w w') : RdI w1 w' t m d s E root L :=
 ⟨h.tr.below b, (b.block t (h.tr.lt t (by simp))).trans h.tc, h.mp.below b, h.lt, h.lm, h.ne⟩
theorem RdI.mapped {w1 w wc : World} {t m d s : Nat} {E : List Ent} {root : Int} {L L' : List (Int × Value)} (h : RdI w1 w t m d s E root L) (hm : MapW wc m L') (f : Frm (fun k => k = m) w wc) : RdI w1 wc t m d s E root L' :=
 ⟨h.tr.turn (by simp) h.lm f, (f.block t (h.tr.lt t (by simp)) h.ne).trans h.tc, hm, h.lt, h.lm, h.ne⟩
structure Rd2 (w1 w : World) (t m d s : Nat) (E : List Ent) (root : Int) (L : List (Int × Value)) (v : Value) : Prop where
 tr : TrR w1 (t :: (v.ownBlock.toList ++ [m])) w d s 300 root E
 tc : w.heap[t]? = some (txC s root 0 false)
 row : RowE w v E
 mp : MapW w m L
theorem Rd2.step {w1 w w' : World} {t m d s : Nat} {E : List Ent} {root : Int} {L : List (Int × Value)} {v : Value} (h : Rd2 w1 w t m d s E root L v) (hn : t ≠ m) (hv : ∀ k, v.ownBlock = some k → k ≠ t) (h1 : TrR w1 (t :: (v.ownBlock.toList ++ [m])) w' d s 300 root E) (h2 : w'.heap[t]? = some (txC s root 0 false)) (h3 : ∀ k ∈ v.ownBlock.toList ++ [m], k ≠ t → w'.heap[k]? = w.heap[k]?) : Rd2 w1 w' t m d s E root L v :=
 ⟨h1, h2, h.row.kept fun k hk => h3 k (by simp [hk]) (hv k hk), h.mp.kept (h3 m (by simp) (Ne.symm hn))⟩
theorem txnReads_law (a : Option Addr) (len cap : Nat) (zs : List Int) (a1 : Int) (w : World) (hk : IsInts .u16 w a len cap zs) (v1 : (Lit.int .u16 a1).wf = true) :
  Calls Tryz.prog 11 #[.slice a len cap, .int .u16 a1] w fun e w' => e = .returned (.bool true) ∧ Below w.heap.size w w' := by
 have MD := Hd fun w => made12_is w 300 (by decide) (by decide)
 have hv1 : 0 ≤ a1 ∧ a1 ≤ 65535 := by
  simp [Lit.wf] at v1;have h1 : IntKind.u16.min = 0 := by rfl
  have h2 : IntKind.u16.max = 65535 := by rfl
  omega
 have ea : IntKind.u64.wrap a1 = a1 := IntWalk.u64_in _ (by omega);have HAK : Hid (0 ≤ a1 ∧ a1 ≤ 18446744073709551615) := Hd (by omega);have CELLS := Hd (u16_cellR hk)
 have hlenL : (len : Int) ≤ 9223372036854775807 := by
  rcases hk with ⟨_, rfl, _, _⟩ | ⟨_, _, h1, h2, _⟩
  ·decide
  ·unfold maxLen at h2; omega
 clear v1 hk hv1;go_enter Tryz.func11, Tryz.ntmps11;try simp only [List.append_eq, List.cons_append, List.nil_append]
 go_wp2_with fail;refine (examples_yes12 _).mono ?_;rintro e w1 ⟨rfl, b1⟩;have B1 := Hd b1;clear b1;go_wp2_with fail;refine (MD.out _).mono ?_;rintro e w2 ⟨d, s, dk, rfl, h1, h2, h3, h4⟩;have BG := Hd (begin_L h1 h2 h3 h4);have sn := ptr_nilS ⟨s, 0, none⟩;clear h1 h2 h3 h4 MD;go_wp2_with fail;refine BG.out.mono ?_;rintro e w3 ⟨t, rfl, h1, h2, h3⟩;have RT := Hd (root_T h2);have hmm : (Instr.makeMap 60 none).run Tryz.prog w3 = .ok (.map (some w3.heap.size)) (w3.alloc (.map #[] 0)) := by simp [Instr.makeMap]
 obtain ⟨m, hm⟩ : ∃ m, w3.heap.size = m := ⟨_, rfl⟩
 obtain ⟨w4, hw4⟩ : ∃ w4, w3.alloc (.map #[] 0) = w4 := ⟨_, rfl⟩
 have HI0 : Hid (RdI w1 w4 t m d s [] 0 []) := by
  have hb : Below w3.heap.size w3 w4 := by rw [← hw4]; exact below_made _ _
  have htl := h1.lt t (by simp);have hsz := h1.size.size;exact Hd ⟨(h1.more hb m (by omega) (by rw [← hw4, ← hm]; simp)).sub (fun k hk => by simp only [List.mem_cons, List.not_mem_nil, or_false] at hk ⊢; rcases hk with hk | hk <;> simp [hk]), (hb.block t htl).trans h2, ⟨#[], 0, by rw [← hw4, ← hm]; exact heap_alloc_new _ _, rfl⟩, h3, by omega, by omega⟩
 rw [hw4, hm] at hmm;clear h1 h2 h3 BG hw4 hm;go_wp2_with fail;refine RT.out.mono ?_;rintro e wx ⟨rfl, rfl⟩;clear RT
 go_upto_block 0 with fail
 go_cut [11] (fun _ wc => ∃ (E : List Ent) (root : Int) (L : List (Int × Value)), Hid (E.length ≤ 30) ∧ Hid (BpR L E) ∧ Hid (RdI w1 wc t m d s E root L))
 case first =>
  go_wp2_with fail
  go_loopw [11, 12] (fun i _ wr => ∃ (j : Nat) (E : List Ent) (root : Int) (L : List (Int × Value)), j ≤ len ∧ j ≤ 30 ∧ i = .int .i64 (j : Int) ∧ Hid (E.length ≤ j) ∧ Hid (BpR L E) ∧ Hid (RdI w1 wr t m d s E root L)) (fun i _ _ => 31 - (intOf i).toNat)
  case atStart => exact ⟨0, [], 0, [], Nat.zero_le _, Nat.zero_le _, rfl, Hd (Nat.le_refl _), Hd BpR.start, HI0⟩
  case round =>
   obtain ⟨j, E, root, L, hj1, hj2, rfl, HLN, HR, HI⟩ := hrel
   by_cases hjl : j < len
   ·have hjli : (j : Int) < (len : Int) := by omega
    by_cases hlt : j < 30
    ·have hli : (j : Int) < 30 := by omega
     obtain ⟨x, z, hax, _, hz, CELL⟩ := CELLS.out j hjl;subst hax;have ez : IntKind.u64.wrap z = z := IntWalk.u64_in _ (by omega);have HZK : Hid (0 ≤ z ∧ z ≤ 18446744073709551615) := Hd (by omega);have HJL : Hid (j + 1 ≤ len ∧ j + 1 ≤ 30) := Hd ⟨by omega, by omega⟩;have e4 : IntKind.i64.wrap ((j : Int) + 1) = ((j + 1 : Nat) : Int) := by rw [show (j : Int) + 1 = ((j + 1 : Nat) : Int) by omega]; exact IntWalk.i64_in _ (by omega)
     have e8 : IntKind.u8.wrap (j : Int) = (j : Int) := IntWalk.u8_in _ (by omega);obtain ⟨zr, hzr⟩ : ∃ zr, (j : Int).tmod 2 = zr := ⟨_, rfl⟩
     have hze : (j : Int) % 2 = zr := by rw [← hzr, Int.tmod_eq_emod_of_nonneg (by omega)]
     have HE5 : Hid (E.length < 2 ^ (5 + 1)) := Hd (by have := HLN.out; omega);have HN5 : Hid (2 * E.length + 2 * 5 + 5 ≤ 300) := Hd (by have := HLN.out; omega);have ca := CELL.out wr (chain B1.out HI.out.tr.size)
     by_cases hz0 : zr = 0
     ·have hzb : (zr == 0) = true := by rw [hz0]; rfl
      have hcv := one_numR j (by omega) wr;obtain ⟨X, hX⟩ : ∃ X, Str [UInt8.ofNat j] = X := ⟨_, rfl⟩
      rw [hX] at hcv;have HXL : Hid (X.size ≤ 40) := Hd (by rw [← hX, Str_size]; simp);have HA := Hd (HI.out.below (below_made wr (.cells #[.int .u8 (j : Int)] 5)));have PU := Hd (put_T (key := z) (val := X) HA.out.tr HA.out.tc HI.out.lt 5 (by decide) HE5.out HN5.out HZK.out HXL.out);clear hz0 hj1 hj2 hjl hlt hz hX;go_wp2_with fail;refine PU.out.mono ?_;rintro e w6 ⟨rfl, q, h1, h2, h3⟩;have OW := Hd (show RdI w1 w6 t m d s (insE z X E) q L from ⟨h1, h2, HA.out.mp.kept (h3 m (by simp) (Ne.symm HI.out.ne)), HI.out.lt, HI.out.lm, HI.out.ne⟩);clear h1 h2 h3 PU HA hcv
      obtain ⟨wc, hmu, hmp, _, _, hmf⟩ := updateWB (P := Tryz.prog) Tryz.underlying60 Tryz.underlying28 OW.out.mp z (.bool true);have FIN := Hd (OW.out.mapped hmp hmf);have LEN : Hid ((insE z X E).length ≤ j + 1) := Hd (by have := HLN.out; have := insE_len z X E; omega);clear hmp hmf OW ca;go_wp2_with fail;go_roundw
      case rel => exact ⟨j + 1, _, _, _, HJL.out.1, HJL.out.2, rfl, LEN, Hd (HR.out.put HZK.out X), FIN⟩
      case measure => have := HJL.out; simp [intOf]; omega
     ·have hzb : (zr == 0) = false := beq_eq_false_iff_ne.2 hz0
      obtain ⟨gb, hgb⟩ : ∃ gb, getB z E = gb := ⟨_, rfl⟩
      have BL : Hid ((getW L z).getD (.bool false) = .bool gb) := Hd (by rw [HR.out.look z, hgb]);have hgne : (gb != gb) = false := by simp
      have HD := Hd (HI.out.below Br.drew);have DL := Hd (del_T (key := z) HD.out.tr HD.out.tc HI.out.lt 5 (by decide) HE5.out HN5.out HZK.out gb hgb);clear hz0 hj1 hj2 hjl hlt hz hgb;go_upto_region 18 with fail
      clear ca;refine wp_region_held_drew (S := fun w' => Below w1.heap.size w1 w' ∧ MapW w' m L) (by kernel_rfl) ⟨HI.out.tr.size.drew, HI.out.mp⟩ (fun hS => ?_);refine Hu 0 63 hS ?_;simp only [SL];refine Hu 1 64 hS ?_;simp only [SL];refine Hu 3 66 hS ?_;simp only [SL];refine Hu 4 67 hS ?_;simp only [SL];refine Hv 5 68 ?va5x5 hS ?ha5x5 ?_
      case ha5x5 =>
       intro w9 s9;have hlk9 := lookupW (P := Tryz.prog) Tryz.underlying60 Tryz.underlying28 s9.2 z (.bool false) (bool_zero Tryz.prog w9) false;rw [BL.out, if_neg (by decide)] at hlk9;clear s9;go_simp;try (with_reducible rfl)
      simp only [SL];refine Hs 2 (fun K HK => ?_);go_simp;go_wp2_with fail;refine DL.out.mono ?_;rintro e w6 ⟨rfl, q, h1, h2, h3⟩;refine HK.out _ _ ?_ ?_
      ·exact ⟨h1.size, hS.2.kept (h3 m (by simp) (Ne.symm HI.out.ne))⟩
      clear HK K;try simp only [Act.put, SL]
      have hS' : Below w1.heap.size w1 w6 ∧ MapW w6 m L := ⟨h1.size, hS.2.kept (h3 m (by simp) (Ne.symm HI.out.ne))⟩
      clear hS;have hS := hS';clear hS';refine Hu 6 69 hS ?_;simp only [SL];refine wpAnyH_done (by kernel_rfl) ?_ _;have OW := Hd (show RdI w1 w6 t m d s (delE z E) q L from ⟨h1, h2, hS.2, HI.out.lt, HI.out.lm, HI.out.ne⟩);clear hS h1 h2 h3;obtain ⟨wc, hmu, hmp, _, _, hmf⟩ := deleteWB (P := Tryz.prog) Tryz.underlying60 Tryz.underlying28 OW.out.mp z 0;have FIN := Hd (OW.out.mapped hmp hmf);have LEN : Hid ((delE z E).length ≤ j + 1) := Hd (by have := HLN.out; have := delE_len z E; omega);clear hmp hmf OW;go_wp2_with fail;go_roundw
      case rel => exact ⟨j + 1, _, _, _, HJL.out.1, HJL.out.2, rfl, LEN, Hd (HR.out.del z), FIN⟩
      case measure => have := HJL.out; simp [intOf]; omega
    ·have hli : ¬ (j : Int) < 30 := by omega
     go_wp2_with fail
     go_meet
     exact ⟨E, root, L, Hd (by have := HLN.out; omega), HR, HI⟩
   ·have hjli : ¬ (j : Int) < (len : Int) := by omega
    go_wp2_with fail
    go_meet
    exact ⟨E, root, L, Hd (by have := HLN.out; omega), HR, HI⟩
 case rest =>
  obtain ⟨E, root, L, HLN, HR, HI⟩ := hcut;have HE6 : Hid (E.length ≤ 600) := Hd (by have := HLN.out; omega);have SC := Hd (scan_T (key := 0) (most := 1000) HI.out.tr HI.out.tc HI.out.lt HE6.out E (by rw [HR.out.all]; exact List.take_of_length_le (Nat.le_trans HLN.out (by decide))));have HNE := Hd HI.out.ne;have HLT := Hd HI.out.lt;clear hlenL CELLS;go_wp2_with fail;refine SC.out.mono ?_;rintro e w4 ⟨v, rfl, h1, h2, h3, h4, h5⟩;obtain ⟨va, vc, rfl⟩ := h3.shape
  have OW := Hd (show Rd2 w1 w4 t m d s E root L (.slice va E.length vc) from ⟨h1, h2, h3, HI.out.mp.kept (h4 m (by simp) (Ne.symm HNE.out))⟩);have HV : Hid (∀ k, (Value.slice va E.length vc).ownBlock = some k → k ≠ t) := Hd (fun k hk e => by have := h5 k hk; have := HI.out.tr.lt t (by simp); omega);clear h1 h2 h3 h4 h5 SC HI;go_wp2_with fail
  go_loopw [14, 15, 16] (fun i _ _ wr => ∃ j : Nat, i = .int .i64 (j : Int) ∧ j ≤ E.length ∧ Hid (Rd2 w1 wr t m d s E root L (.slice va E.length vc))) (fun i _ _ _ => E.length - (intOf i).toNat)
  case atStart => exact ⟨0, rfl, Nat.zero_le _, OW⟩
  case round =>
   obtain ⟨j, rfl, hj, HO⟩ := hrel
   by_cases hlt : j < E.length
   ·have hli : (j : Int) < (E.length : Int) := by omega
    obtain ⟨⟨ek, ev⟩, he⟩ : ∃ e, E[j]? = some e := ⟨_, List.getElem?_eq_getElem hlt⟩
    obtain ⟨g, hg, _, k1, k2⟩ := HO.out.row.at he;have HE := Hd he;have hkk := HR.out.at he;have GE := Hd (get_T (key := ek) HO.out.tr HO.out.tc HLT.out HE6.out (HR.out.ky ek (mem_keysE.2 ⟨ev, List.mem_of_getElem? he⟩)) ev true hkk.1 hkk.2);have HJ : Hid (j + 1 ≤ E.length ∧ E.length ≤ 30) := Hd ⟨by omega, HLN.out⟩;have e4 : IntKind.i64.wrap ((j : Int) + 1) = ((j + 1 : Nat) : Int) := by have := HJ.out; rw [show (j : Int) + 1 = ((j + 1 : Nat) : Int) by omega]; exact IntWalk.i64_in _ (by omega)
    subst hg;clear he hkk hlt hj k2;go_wp2_with fail;refine GE.out.mono ?_;rintro e w5 ⟨rfl, h1, h2, h3⟩;have OW5 := Hd (HO.out.step HNE.out HV.out h1 h2 h3);clear h1 h2 h3 GE HO k1;obtain ⟨g', hg', _, k1, k2⟩ := OW5.out.row.at HE.out;have hg2 : g = g' := by injection hg' with hg'; injection hg'
    subst hg2;have hlk := lookupW (P := Tryz.prog) Tryz.underlying60 Tryz.underlying28 OW5.out.mp ek (.bool false) (bool_zero Tryz.prog w5) false;rw [HR.out.look, (HR.out.at HE.out).2, if_neg (by decide)] at hlk;clear hg';go_wp2_with fail;go_roundw
    case rel => exact ⟨j + 1, rfl, HJ.out.1, OW5⟩
    case measure => have := HJ.out; simp [intOf]; omega
   ·have hli : ¬ (j : Int) < (E.length : Int) := by omega
    obtain ⟨gb, hgb⟩ : ∃ gb, getB a1 E = gb := ⟨_, rfl⟩
    obtain ⟨gv, hgv⟩ : ∃ gv, getV a1 E = gv := ⟨_, rfl⟩
    have GE := Hd (get_T (key := a1) HO.out.tr HO.out.tc HLT.out HE6.out HAK.out gv gb hgv hgb);have BL : Hid ((getW L a1).getD (.bool false) = .bool gb) := Hd (by rw [HR.out.look a1, hgb]);clear hgb hgv hlt hj;go_wp2_with fail;refine GE.out.mono ?_;rintro e w5 ⟨rfl, h1, h2, h3⟩;have OW5 := Hd (HO.out.step HNE.out HV.out h1 h2 h3);clear h1 h2 h3 GE HO;have DR := Hd (drop_T OW5.out.tr OW5.out.tc HLT.out);go_wp2_with fail;refine DR.out.mono ?_;rintro e w6 ⟨rfl, h1, h2, h3⟩;have HB6 := Hd h1;have HT6 := Hd h2;have HM6 : Hid (MapW w6 m L) := Hd (OW5.out.mp.kept (h3 m (by simp) (Ne.symm HNE.out)))
    have htl := HB6.out.2;clear h1 h2 h3 DR htl;go_wp2_with fail;refine (getOver_T HT6.out).mono ?_;rintro e w7 ⟨rfl, b7⟩;have HB7 := Hd (HB6.out.below b7);have HT7 := Hd ((b7.block t (Array.getElem?_eq_some_iff.1 HT6.out).1).trans HT6.out);have hlk := lookupW (P := Tryz.prog) Tryz.underlying60 Tryz.underlying28 (HM6.out.below b7) a1 (.bool false) (bool_zero Tryz.prog w7) false;rw [BL.out, if_neg (by decide)] at hlk;have hln := lenW (P := Tryz.prog) Tryz.underlying60 (HM6.out.below b7) 3;rw [HR.out.len] at hln;have LF := back_left HB7.out;rw [show ((300 : Nat) : Int) - 2 = 298 by decide] at LF
    have LFH := Hd LF;have hll : ((E.length : Int) == (E.length : Int)) = true := by simp
    have hgg : (gb == gb) = true := by simp
    clear b7 HB6 HT6 HM6 LF OW5;go_wp2_with fail;refine (rootOver_T HT7.out).mono ?_;rintro e w8 ⟨rfl, rfl⟩;go_wp2_with fail;refine (over_T HT7.out).mono ?_;rintro e w8 ⟨rfl, rfl⟩;go_wp2_with fail;refine LFH.out.mono ?_;rintro e w8 ⟨rfl, b8⟩;have BF := Hd (chain B1.out (HB7.out.below b8).1);clear b8 hlk hln;go_wp2_with fail;go_ret;exact ⟨rfl, BF.out⟩
end Go.Proofs.YtmomlhiokggfbaaGreatDoor
