/-
  A disk: Crash.
-/
import Derived.Test.YtbjmbndeaobbeaaDoorDiskN
namespace Go.Proofs.YtbjmbndeaobbeaaDoor
open Go.RowKit
set_option linter.unusedVariables false
set_option linter.unusedSimpArgs false
def oddB (n : Int) : Bool := n % 2 == 1
theorem and_one (n : Int) : bits .and .i64 n 1 = n % 2 := by
  show IntKind.i64.wrap ((BitVec.ofInt 64 n &&& BitVec.ofInt 64 1).toNat : Int) = _
  have e : (BitVec.ofInt 64 n &&& BitVec.ofInt 64 1).toNat = (n % 2).toNat := by
    rw [BitVec.toNat_and]
    have e1 : (BitVec.ofInt 64 1).toNat = 1 := by decide
    rw [e1, Nat.and_one_is_mod, BitVec.toNat_ofInt]
    omega
  rw [e, IntKind.wrap_i64]
  omega
set_option maxHeartbeats 400000 in
theorem odd_is (n : Int) (w : World) (v : Bool) (hv : oddB n = v) :
    Calls Tryd.prog 35 #[.int .i64 n] w fun e w' => e = .returned (.bool v) ∧ w = w' := by
  have H := Lib.hid hv
  have ha := and_one n
  clear hv
  go_enter Tryd.func35, Tryd.ntmps35
  go_wp2_with fail
  go_ret
  refine ⟨?_, rfl⟩
  rw [← H.out]
  exact ret_bool (by rw [Bool.eq_iff_iff]; simp [oddB])
/-- Is what stands at a place lost? -/
def loseB (ks : List Int) (j : Nat) : Bool := decide (ks.length ≤ j) || !(oddB (ks.getD j 0))
/-- The sectors, as the first j loose ones are lost. -/
def rsT (S : List (List UInt8)) (L : List (Nat × List UInt8)) (ks : List Int) : Nat → List (List UInt8)
  | 0 => S
  | j + 1 => if loseB ks j = true then (rsT S L ks j).set (L.getD j (0, [])).1 (L.getD j (0, [])).2 else rsT S L ks j
theorem rsT_len (S : List (List UInt8)) (L : List (Nat × List UInt8)) (ks : List Int) (j : Nat) : (rsT S L ks j).length = S.length := by
  induction j with
  | zero => rfl
  | succ j ih =>
    unfold rsT
    split
    · rw [List.length_set]; exact ih
    · exact ih
/-- What Crash leaves. -/
def DkS.crash (st : DkS) (ks : List Int) : DkS := { S := rsT st.S st.L ks st.L.length, L := [], fuse := -1, up := true }
/-- A slice of ints that came in, which stays while blocks of F turn. -/
def KeepIn (F : Nat → Prop) (w : World) (a : Option Addr) (len cap : Nat) (ks : List Int) : Prop :=
  ks.length = len ∧ len ≤ cap ∧ cap ≤ maxLen ∧ ((a = none ∧ len = 0 ∧ cap = 0) ∨ ∃ x, a = some x ∧ ∀ w', Frm F w w' → ∀ j, j < len → w'.cell? (x.add j) = some (.int .i64 (ks.getD j 0)))
theorem store_run {w : World} {ops : Array Oper} {rest : List Oper} {o : Oper} {a : Act} {Q : Exit → Act → World → Prop} (hgd : o.guard = none) (x y : Operand) (t : TypeId) (ho : o.op = .store t x y)
    (p : Addr) (hx : a.eval x = .pointer (some p)) (v : Value) (hy : a.eval y = v) (w2 : World) (hr : (storeVar t p v).run Tryd.prog w = .ok () w2)
    (h : wpList Tryd.prog ops Q rest (a.put o.dst undef) w2) : wpList Tryd.prog ops Q (o :: rest) a w := by
  refine wpList_plain hgd fun K hK => ?_
  unfold Oper.wp
  simp [execOp, ho, hx, hy, Instr.storeAt, Instr.sureAddr, hr]
  exact hK _ _ h
set_option maxHeartbeats 3200000 in
set_option maxRecDepth 20000 in
theorem crash_is (w : World) (d : Nat) (st : DkS) (F : Nat → Prop) (h : Dk w d st F) (ka : Option Addr) (klen kcap : Nat) (ks : List Int) (hkeep : KeepIn F w ka klen kcap ks) :
    Calls Tryd.prog 16 #[.pointer (some ⟨d, 0, none⟩), .slice ka klen kcap] w (Void (DkPost w d (st.crash ks) F)) := by
  obtain ⟨g, m, lv, hi, he⟩ := h
  obtain ⟨_, c1, _, _, _⟩ := hi.cells
  have hle := hi.ok.loose_le
  obtain ⟨len, hlen⟩ : ∃ len, st.L.length = len := ⟨_, rfl⟩
  have HL := Lib.hid hlen
  have HI := Lib.hid hi
  have HE := Lib.hid he
  have HK := Lib.hid hkeep
  rw [hlen] at hle
  obtain ⟨la, lcap, hlv⟩ : ∃ (la : Option Addr) (lcap : Nat), lv = .slice la len lcap := by
    rcases hi.loose.2 with ⟨h1, h2⟩ | ⟨b, cap, cur, h1, _⟩
    · exact ⟨none, 0, by rw [h1, ← hlen, h2]⟩
    · exact ⟨_, _, by rw [h1, ← hlen]⟩
  subst hlv
  clear hi he hkeep hlen
  go_enter Tryd.func16, Tryd.ntmps16
  go_wp2_with fail
  go_loopw [4, 5, 11] (fun _ _ i wr => ∃ j : Nat, j ≤ len ∧ i = .int .i64 (j : Int) ∧ Hid (DkIn wr d g m (.slice la len lcap) { st with S := rsT st.S st.L ks j }) ∧ Hid (Frm F w wr)) (fun _ _ i _ => len + 1 - (intOf i).toNat)
  case atStart => exact ⟨0, Nat.zero_le _, rfl, HI, Lib.hid (Frm.refl _ _)⟩
  case round =>
    obtain ⟨j, hj, rfl, HD, HF⟩ := hrel
    by_cases hlt : j < len
    · have hli : (j : Int) < (len : Int) := by omega
      obtain ⟨b, hla⟩ : ∃ b, la = some ⟨b, 0, none⟩ := by
        rcases HD.out.loose.2 with ⟨h1, h2⟩ | ⟨b, cap, cur, h1, _⟩
        · have h3 : st.L.length = 0 := h2
          have := HL.out
          omega
        · injection h1 with h1 _ _
          exact ⟨b, h1⟩
      subst hla
      obtain ⟨n, v, hp⟩ : ∃ n v, Hid (st.L[j]'(by rw [HL.out]; exact hlt) = (n, v)) := ⟨_, _, Lib.hid rfl⟩
      have cj : wr.cell? ⟨b, j, none⟩ = some (.int .i64 (n : Int)) := by
        have := HD.out.loose.cells (g := b) rfl j (.int .i64 (n : Int)) (by
          rw [List.getElem?_map, List.getElem?_eq_getElem (by rw [HL.out]; exact hlt), hp.out]
          rfl)
        rwa [addr_add, Nat.zero_add] at this
      have hks := HK.out.1
      have hkle := HK.out.2.1
      have hkcap := HK.out.2.2.1
      by_cases hkj : klen ≤ j
      · have hkji : (klen : Int) ≤ (j : Int) := by omega
        have hlose : loseB ks j = true := by unfold loseB; rw [hks]; simp [hkj]
        have HN : Hid (rsT st.S st.L ks (j + 1) = (rsT st.S st.L ks j).set n v) := Lib.hid (by
          rw [rsT, if_pos hlose, List.getD_eq_getElem?_getD, List.getElem?_eq_getElem (by rw [HL.out]; exact hlt), Option.getD_some, hp.out])
        have hb2 : Below wr.heap.size wr wr.drew := (Below.refl _ _).drew
        have hd2 := HD.out.of_below hb2
        have hok2 := hd2.ok
        obtain ⟨a0, _, a2, _, _⟩ := hd2.cells
        have hmem : (n, v) ∈ st.L := by rw [← hp.out]; exact List.getElem_mem _
        have hlk := lookup_yes (P := Tryd.prog) Tryd.underlying50 Tryd.underlying3 hd2.mp (by rw [List.map_map]; exact hok2.keys) n (.agg (By v)) (List.mem_map.2 ⟨(n, v), hmem, rfl⟩) false
        rw [if_neg (by decide)] at hlk
        have hv : v.length = 256 := (hok2.had _ hmem).2
        have hnl := (hok2.had _ hmem).1
        have hnl2 : n < (rsT st.S st.L ks j).length := hnl
        have hfl := flat_len hok2.lens
        have hst := hd2.secs.store_at (n * 256) v hv (by rw [hfl]; omega)
        have hfs := flat_set hok2.lens n hnl2 v
        rw [Nat.mul_comm 256 n] at hfs
        have hfs2 : (rsT st.S st.L ks j).flatten.take (n * 256) ++ v ++ (rsT st.S st.L ks j).flatten.drop (n * 256 + 256) = ((rsT st.S st.L ks j).set n v).flatten := hfs
        have hst2 : (storeVar 66 ⟨g, n * 256, none⟩ (.agg (By v))).run Tryd.prog wr.drew = .ok () (wr.drew.setRow g (By ((rsT st.S st.L ks j).set n v).flatten)) := by
          rw [← hfs2]; exact hst
        have HD3 : Hid (DkIn (wr.drew.setRow g (By ((rsT st.S st.L ks j).set n v).flatten)) d g m (.slice (some ⟨b, 0, none⟩) len lcap) { st with S := rsT st.S st.L ks (j + 1) }) := Lib.hid (by
          rw [HN.out]
          exact hd2.setSec n v hv hnl2)
        have HF3 : Hid (Frm F w (wr.drew.setRow g (By ((rsT st.S st.L ks j).set n v).flatten))) := Lib.hid (HF.out.drew.setRow g _ (.inl ((HE.out g).2 (.inr (.inl rfl)))))
        have hls : (rsT st.S st.L ks j).length = st.S.length := rsT_len _ _ _ _
        have hfew := hok2.few
        have hnli : (n : Int) < ((rsT st.S st.L ks j).length : Int) := by omega
        obtain ⟨sl, hsl⟩ : ∃ sl, (rsT st.S st.L ks j).length = sl := ⟨_, rfl⟩
        have hfew2 : sl ≤ 640 := by rw [← hsl]; exact hfew
        have a0' : wr.drew.cell? ⟨d, 0, none⟩ = some (.slice (some ⟨g, 0, none⟩) sl sl) := by rw [← hsl]; exact a0
        rw [hsl] at hnli
        clear hd2 hok2 hmem hnl hnl2 hfl hst hfs hfs2 HN hls hfew a0 hb2 hsl
        clear hlose
        go_wp2_with fail
        refine wp_region_still_tail 12 (by kernel_rfl) (by kernel_rfl) ?_
        simp only [List.take_succ_cons, List.take_zero, List.drop_succ_cons, List.drop_zero]
        change wpStill _ _ wr.drew _ _ _
        iterate 12 still_step
        refine wpStill_nil ?_
        change wpList _ _ _ _ _ wr.drew
        refine store_run rfl (.tmp 39) (.tmp 38) 66 rfl ⟨g, n * 256, none⟩ rfl _ rfl _ hst2 ?_
        go_wp2_with fail
        go_roundw
        case rel => exact ⟨j + 1, by omega, by go_num, HD3, HF3⟩
        case measure => simp [intOf]; omega
      · have hkji : ¬ ((klen : Int) ≤ (j : Int)) := by omega
        obtain ⟨x, hx, hat⟩ : ∃ x, ka = some x ∧ wr.cell? (x.add j) = some (.int .i64 (ks.getD j 0)) := by
          rcases HK.out.2.2.2 with ⟨_, h2, _⟩ | ⟨x, h1, h2⟩
          · omega
          · exact ⟨x, h1, h2 wr HF.out j (by omega)⟩
        subst hx
        obtain ⟨kv, hkv⟩ : ∃ kv, ks.getD j 0 = kv := ⟨_, rfl⟩
        rw [hkv] at hat
        have hkl : (klen : Int) ≤ 9223372036854775807 := by unfold maxLen at hkcap; omega
        cases ho : oddB kv
        · have HO := Lib.hid (odd_is kv wr false ho)
          have hlose : loseB ks j = true := by unfold loseB; rw [hkv, ho]; simp
          have HN : Hid (rsT st.S st.L ks (j + 1) = (rsT st.S st.L ks j).set n v) := Lib.hid (by
            rw [rsT, if_pos hlose, List.getD_eq_getElem?_getD, List.getElem?_eq_getElem (by rw [HL.out]; exact hlt), Option.getD_some, hp.out])
          have hb2 : Below wr.heap.size wr wr.drew := (Below.refl _ _).drew
          have hd2 := HD.out.of_below hb2
          have hok2 := hd2.ok
          obtain ⟨a0, _, a2, _, _⟩ := hd2.cells
          have hmem : (n, v) ∈ st.L := by rw [← hp.out]; exact List.getElem_mem _
          have hlk := lookup_yes (P := Tryd.prog) Tryd.underlying50 Tryd.underlying3 hd2.mp (by rw [List.map_map]; exact hok2.keys) n (.agg (By v)) (List.mem_map.2 ⟨(n, v), hmem, rfl⟩) false
          rw [if_neg (by decide)] at hlk
          have hv : v.length = 256 := (hok2.had _ hmem).2
          have hnl := (hok2.had _ hmem).1
          have hnl2 : n < (rsT st.S st.L ks j).length := hnl
          have hfl := flat_len hok2.lens
          have hst := hd2.secs.store_at (n * 256) v hv (by rw [hfl]; omega)
          have hfs := flat_set hok2.lens n hnl2 v
          rw [Nat.mul_comm 256 n] at hfs
          have hfs2 : (rsT st.S st.L ks j).flatten.take (n * 256) ++ v ++ (rsT st.S st.L ks j).flatten.drop (n * 256 + 256) = ((rsT st.S st.L ks j).set n v).flatten := hfs
          have hst2 : (storeVar 66 ⟨g, n * 256, none⟩ (.agg (By v))).run Tryd.prog wr.drew = .ok () (wr.drew.setRow g (By ((rsT st.S st.L ks j).set n v).flatten)) := by
            rw [← hfs2]; exact hst
          have HD3 : Hid (DkIn (wr.drew.setRow g (By ((rsT st.S st.L ks j).set n v).flatten)) d g m (.slice (some ⟨b, 0, none⟩) len lcap) { st with S := rsT st.S st.L ks (j + 1) }) := Lib.hid (by
            rw [HN.out]
            exact hd2.setSec n v hv hnl2)
          have HF3 : Hid (Frm F w (wr.drew.setRow g (By ((rsT st.S st.L ks j).set n v).flatten))) := Lib.hid (HF.out.drew.setRow g _ (.inl ((HE.out g).2 (.inr (.inl rfl)))))
          have hls : (rsT st.S st.L ks j).length = st.S.length := rsT_len _ _ _ _
          have hfew := hok2.few
          have hnli : (n : Int) < ((rsT st.S st.L ks j).length : Int) := by omega
          obtain ⟨sl, hsl⟩ : ∃ sl, (rsT st.S st.L ks j).length = sl := ⟨_, rfl⟩
          have hfew2 : sl ≤ 640 := by rw [← hsl]; exact hfew
          have a0' : wr.drew.cell? ⟨d, 0, none⟩ = some (.slice (some ⟨g, 0, none⟩) sl sl) := by rw [← hsl]; exact a0
          rw [hsl] at hnli
          clear hd2 hok2 hmem hnl hnl2 hfl hst hfs hfs2 HN hls hfew a0 hb2 hsl
          clear hlose
          go_wp2_with fail
          refine HO.out.mono ?_
          rintro e w2 ⟨rfl, rfl⟩
          go_wp2_with fail
          refine wp_region_still_tail 12 (by kernel_rfl) (by kernel_rfl) ?_
          simp only [List.take_succ_cons, List.take_zero, List.drop_succ_cons, List.drop_zero]
          change wpStill _ _ wr.drew _ _ _
          iterate 12 still_step
          refine wpStill_nil ?_
          change wpList _ _ _ _ _ wr.drew
          refine store_run rfl (.tmp 39) (.tmp 38) 66 rfl ⟨g, n * 256, none⟩ rfl _ rfl _ hst2 ?_
          go_wp2_with fail
          go_roundw
          case rel => exact ⟨j + 1, by omega, by go_num, HD3, HF3⟩
          case measure => simp [intOf]; omega
        · have HO := Lib.hid (odd_is kv wr true ho)
          have hlose : ¬ loseB ks j = true := by unfold loseB; rw [hkv, ho, hks]; simp; omega
          have HD3 : Hid (DkIn wr d g m (.slice (some ⟨b, 0, none⟩) len lcap) { st with S := rsT st.S st.L ks (j + 1) }) := Lib.hid (by
            have e : rsT st.S st.L ks (j + 1) = rsT st.S st.L ks j := by rw [rsT, if_neg hlose]
            rw [e]; exact HD.out)
          clear hlose
          go_wp2_with fail
          refine HO.out.mono ?_
          rintro e w2 ⟨rfl, rfl⟩
          go_wp2_with fail
          go_roundw
          case rel => exact ⟨j + 1, by omega, by go_num, HD3, HF⟩
          case measure => simp [intOf]; omega
    · obtain rfl : j = len := by omega
      have hli : ¬ ((j : Int) < (j : Int)) := by omega
      have ST := Lib.hid (settle_is wr d _ F ⟨g, m, _, HD.out, HE.out⟩)
      go_wp2_with fail
      refine ST.out.mono ?_
      rintro e w2 ⟨rfl, hp⟩
      obtain ⟨F2, ⟨g2, m2, lv2, hi2, he2⟩, hf2, hs2⟩ := hp
      obtain ⟨_, _, _, c3, c4⟩ := hi2.cells
      have f3 := hi2.free 3
      have f4 := hi2.free 4
      have hi3 := (hi2.setFuse (-1) (by omega) (by omega)).setUp true
      have FIN : Hid (DkPost w d (st.crash ks) F ((w2.setCell ⟨d, 3, none⟩ (.int .i64 (-1))).setCell ⟨d, 4, none⟩ (.bool true))) := Lib.hid (by
        have hdF : F2 d := (he2 d).2 (.inl rfl)
        have hf3 := ((Frm.refl F2 w2).setCell ⟨d, 3, none⟩ (.int .i64 (-1)) (.inl hdF)).setCell ⟨d, 4, none⟩ (.bool true) (.inl hdF)
        have hsub : ∀ k, F2 k → F k ∨ w.heap.size ≤ k := fun k hk => by
          rcases hs2 k hk with hx | hx
          · exact .inl hx
          · exact .inr (Nat.le_trans HF.out.size hx)
        refine ⟨F2, ⟨g2, m2, lv2, ?_, he2⟩, (HF.out.trans hf2 fun k hk => .inl hk).trans hf3 hsub, hsub⟩
        unfold DkS.crash
        rw [HL.out]
        exact hi3)
      clear hi2 he2 hf2 hs2 hi3
      go_wp2_with fail
      go_end0
      exact ⟨rfl, FIN.out⟩
end Go.Proofs.YtbjmbndeaobbeaaDoor
