/-
  Several texts in one: ShM4, BtFacts, ShBits, ShM5, ShM6, ShM7.
-/
import Derived.Test.YtbjmbndeaobbeaaDoorShC
import Derived.Test.YtbjmbndeaobbeaaDoorBitsCount
import Derived.Test.YtbjmbndeaobbeaaDoorBitsWith0
import Derived.Test.YtbjmbndeaobbeaaDoorBitsNew
import Derived.Test.YtbjmbndeaobbeaaDoorTakePut
namespace Go.Proofs.YtbjmbndeaobbeaaDoor
open Go.RowKit
set_option linter.unusedVariables false
set_option linter.unusedSimpArgs false
theorem few_of {l : List Int} (hn : l.Nodup) (hb : ∀ x ∈ l, 2 ≤ x ∧ x < 640) : l.length ≤ 640 := by
  have h1 : (l.map Int.toNat).Nodup := by
    refine List.pairwise_map.2 (hn.imp_of_mem fun {a b} ha hb' hne e => ?_)
    have h3 := hb a ha
    have h4 := hb b hb'
    exact hne (by omega)
  have h2 := nodup_le 640 (l.map Int.toNat) h1 (fun x hx => by
    obtain ⟨y, hy, rfl⟩ := List.mem_map.1 hx
    have := hb y hy
    omega)
  simpa using h2
theorem Sto.few {w : World} {s d : Nat} {st : ShS} {F : Nat → Prop} (h : Sto w s d st F) : st.fresh.length ≤ 640 := by
  obtain ⟨f, g, hi, he⟩ := h
  exact few_of hi.fr.nodup hi.fb
def leftN (st : ShS) (size : Nat) : Int := (size : Int) - 2 - (cntL st.h.used.data.toList : Int) - (st.fresh.length : Int)
set_option maxHeartbeats 3200000 in
set_option maxRecDepth 20000 in
theorem left_is (w : World) (s d : Nat) (dk : DkS) (st : ShS) (FD F : Nat → Prop) (hd : Dk w d dk FD) (h : Sto w s d st F) :
    Calls Tryd.prog 21 #[.pointer (some ⟨s, 0, none⟩)] w fun e w' => e = .returned (.int .i64 (leftN st dk.S.length)) ∧ Below w.heap.size w w' := by
  have hz := hd.ok.few
  have hfew := h.few
  have SZ := Lib.hid (fun w' (hb : Below w.heap.size w w') => stosize_is w' s d st F (h.below hb) dk FD (hd.below hb))
  obtain ⟨f0, g0, hi0, he0⟩ := h
  have hu80 := hi0.ok.u
  have CN := Lib.hid (fun w' => count_any st.h.used w' (by omega))
  have hc := cntL_le st.h.used.data.toList
  rw [size_list, hu80] at hc
  have LN : Hid (∀ w', Below w.heap.size w w' → (Builtin.len_ #[56] 3 #[.map (some f0)]).run Tryd.prog w' = .ok (.int .i64 (st.fresh.length : Int)) w') := Lib.hid (fun w' hb => lenS (P := Tryd.prog) Tryd.underlying56 (hi0.kept (fun k hk => hb.block k (hi0.lt k hk))).fr 3)
  have CE := Lib.hid (fun w' (hb : Below w.heap.size w w') => (hi0.kept (fun k hk => hb.block k (hi0.lt k hk))).cells)
  unfold leftN
  generalize cntL st.h.used.data.toList = cn at *
  generalize st.fresh.length = ln at *
  generalize dk.S.length = sz at *
  have hw1 : IntKind.i64.wrap ((sz : Int) - 2) = (sz : Int) - 2 := by rw [IntKind.wrap_i64]; omega
  have hw2 : IntKind.i64.wrap ((sz : Int) - 2 - (cn : Int)) = (sz : Int) - 2 - (cn : Int) := by rw [IntKind.wrap_i64]; omega
  have hw3 : IntKind.i64.wrap ((sz : Int) - 2 - (cn : Int) - (ln : Int)) = (sz : Int) - 2 - (cn : Int) - (ln : Int) := by rw [IntKind.wrap_i64]; omega
  clear hi0 he0 hd hz hfew hc hu80
  go_enter Tryd.func21, Tryd.ntmps21
  go_wp2_with fail
  refine wp_region_held_drew (S := fun w' => Below w.heap.size w w') (by kernel_rfl) (Below.refl w.heap.size w).drew (fun hS => ?_)
  refine held_take (i := 0) 3 (v := ?va0x1) rfl rfl (by kernel_rfl) (by kernel_rfl) (by kernel_rfl) (fun _ _ _ h => h) hS (by rfl) ?ha0x1 ?ra0x1
  case ha0x1 =>
    intro w9 s9
    clear s9
    go_simp
    try (with_reducible rfl)
  simp only [List.setIfInBounds_toArray, List.set_cons_zero, List.set_cons_succ]
  refine held_take (i := 3) 6 (v := ?va3x2) rfl rfl (by kernel_rfl) (by kernel_rfl) (by kernel_rfl) (fun _ _ _ h => h) hS (by rfl) ?ha3x2 ?ra3x2
  case ha3x2 =>
    intro w9 s9
    clear s9
    go_simp
    try (with_reducible rfl)
  simp only [List.setIfInBounds_toArray, List.set_cons_zero, List.set_cons_succ]
  refine held_take (i := 4) 7 (v := ?va4x3) rfl rfl (by kernel_rfl) (by kernel_rfl) (by kernel_rfl) (fun _ _ _ h => h) hS (by rfl) ?ha4x3 ?ra4x3
  case ha4x3 =>
    intro w9 s9
    clear s9
    go_simp
    try (with_reducible rfl)
  simp only [List.setIfInBounds_toArray, List.set_cons_zero, List.set_cons_succ]
  refine held_take (i := 5) 8 (v := ?va5x4) rfl rfl (by kernel_rfl) (by kernel_rfl) (by kernel_rfl) (fun _ _ _ h => h) hS (by rfl) ?ha5x4 ?ra5x4
  case ha5x4 =>
    intro w9 s9
    clear s9
    go_simp
    try (with_reducible rfl)
  simp only [List.setIfInBounds_toArray, List.set_cons_zero, List.set_cons_succ]
  refine held_take (i := 6) 9 (v := ?va6x5) rfl rfl (by kernel_rfl) (by kernel_rfl) (by kernel_rfl) (fun _ _ _ h => h) hS (by rfl) ?ha6x5 ?ra6x5
  case ha6x5 =>
    intro w9 s9
    clear s9
    go_simp
    try (with_reducible rfl)
  simp only [List.setIfInBounds_toArray, List.set_cons_zero, List.set_cons_succ]
  refine held_take (i := 7) 10 (v := ?va7x6) rfl rfl (by kernel_rfl) (by kernel_rfl) (by kernel_rfl) (fun _ _ _ h => h) hS (by rfl) ?ha7x6 ?ra7x6
  case ha7x6 =>
    intro w9 s9
    obtain ⟨x0, x1, x2, x3, x4, x5, x6⟩ := CE.out w9 s9
    clear s9
    go_simp
    try (with_reducible rfl)
  simp only [List.setIfInBounds_toArray, List.set_cons_zero, List.set_cons_succ]
  refine held_take (i := 10) 13 (v := ?va10x7) rfl rfl (by kernel_rfl) (by kernel_rfl) (by kernel_rfl) (fun _ _ _ h => h) hS (by rfl) ?ha10x7 ?ra10x7
  case ha10x7 =>
    intro w9 s9
    clear s9
    go_simp
    try (with_reducible rfl)
  simp only [List.setIfInBounds_toArray, List.set_cons_zero, List.set_cons_succ]
  refine held_take (i := 11) 14 (v := ?va11x8) rfl rfl (by kernel_rfl) (by kernel_rfl) (by kernel_rfl) (fun _ _ _ h => h) hS (by rfl) ?ha11x8 ?ra11x8
  case ha11x8 =>
    intro w9 s9
    clear s9
    go_simp
    try (with_reducible rfl)
  simp only [List.setIfInBounds_toArray, List.set_cons_zero, List.set_cons_succ]
  refine held_take (i := 12) 15 (v := ?va12x9) rfl rfl (by kernel_rfl) (by kernel_rfl) (by kernel_rfl) (fun _ _ _ h => h) hS (by rfl) ?ha12x9 ?ra12x9
  case ha12x9 =>
    intro w9 s9
    clear s9
    go_simp
    try (with_reducible rfl)
  simp only [List.setIfInBounds_toArray, List.set_cons_zero, List.set_cons_succ]
  refine held_take (i := 13) 16 (v := ?va13x10) rfl rfl (by kernel_rfl) (by kernel_rfl) (by kernel_rfl) (fun _ _ _ h => h) hS (by rfl) ?ha13x10 ?ra13x10
  case ha13x10 =>
    intro w9 s9
    obtain ⟨x0, x1, x2, x3, x4, x5, x6⟩ := CE.out w9 s9
    clear s9
    go_simp
    try (with_reducible rfl)
  simp only [List.setIfInBounds_toArray, List.set_cons_zero, List.set_cons_succ]
  refine held_step (i := 1) rfl (by kernel_rfl) (fun K hK => ?_)
  have HK := Lib.hid hK
  clear hK
  go_simp
  go_wp2_with fail
  refine (SZ.out _ hS).mono ?_
  rintro e v1 ⟨rfl, rfl⟩
  refine HK.out _ _ ?_ ?_
  · exact hS
  clear HK K
  try simp only [Act.put, List.setIfInBounds_toArray, List.set_cons_zero, List.set_cons_succ]
  refine held_take (i := 2) 5 (v := ?va2x11) rfl rfl (by kernel_rfl) (by kernel_rfl) (by kernel_rfl) (fun _ _ _ h => h) hS (by rfl) ?ha2x11 ?ra2x11
  case ha2x11 =>
    intro w9 s9
    clear s9
    go_simp
    try (with_reducible rfl)
  simp only [List.setIfInBounds_toArray, List.set_cons_zero, List.set_cons_succ]
  refine held_step (i := 8) rfl (by kernel_rfl) (fun K hK => ?_)
  have HK := Lib.hid hK
  clear hK
  go_simp
  go_wp2_with fail
  refine (CN.out _).mono ?_
  rintro e v2 ⟨rfl, rfl⟩
  refine HK.out _ _ ?_ ?_
  · exact hS
  clear HK K
  try simp only [Act.put, List.setIfInBounds_toArray, List.set_cons_zero, List.set_cons_succ]
  refine held_take (i := 9) 12 (v := ?va9x12) rfl rfl (by kernel_rfl) (by kernel_rfl) (by kernel_rfl) (fun _ _ _ h => h) hS (by rfl) ?ha9x12 ?ra9x12
  case ha9x12 =>
    intro w9 s9
    clear s9
    go_simp
    try (with_reducible rfl)
  simp only [List.setIfInBounds_toArray, List.set_cons_zero, List.set_cons_succ]
  refine held_take (i := 14) 17 (v := ?va14x13) rfl rfl (by kernel_rfl) (by kernel_rfl) (by kernel_rfl) (fun _ _ _ h => h) hS (by rfl) ?ha14x13 ?ra14x13
  case ha14x13 =>
    intro w9 s9
    have hl := LN.out w9 s9
    clear s9
    go_simp
    try (with_reducible rfl)
  simp only [List.setIfInBounds_toArray, List.set_cons_zero, List.set_cons_succ]
  refine held_take (i := 15) 18 (v := ?va15x14) rfl rfl (by kernel_rfl) (by kernel_rfl) (by kernel_rfl) (fun _ _ _ h => h) hS (by rfl) ?ha15x14 ?ra15x14
  case ha15x14 =>
    intro w9 s9
    clear s9
    go_simp
    try (with_reducible rfl)
  simp only [List.setIfInBounds_toArray, List.set_cons_zero, List.set_cons_succ]
  refine held_take (i := 16) 2 (v := ?va16x15) rfl rfl (by kernel_rfl) (by kernel_rfl) (by kernel_rfl) (fun _ _ _ h => h) hS (by rfl) ?ha16x15 ?ra16x15
  case ha16x15 =>
    intro w9 s9
    clear s9
    go_simp
    try (with_reducible rfl)
  simp only [List.setIfInBounds_toArray, List.set_cons_zero, List.set_cons_succ]
  refine wpAnyH_done (by kernel_rfl) ?_ _
  have H9 := Lib.hid hS
  clear hS
  go_wp2_with fail
  go_ret
  exact ⟨rfl, H9.out⟩
def usedL (st : ShS) (size : Nat) : Nat → Nat
  | 0 => 0
  | k + 1 => usedL st size k + (if 2 ≤ k ∧ hasB st.h.used (k : Int) = true then 1 else 0)
def usedN (st : ShS) (size : Nat) : Nat := usedL st size size
theorem usedL_le (st : ShS) (size k : Nat) : usedL st size k ≤ k := by
  induction k with
  | zero => exact Nat.le_refl _
  | succ k ih => unfold usedL; split <;> omega
theorem usedL_2 (st : ShS) (size : Nat) : usedL st size 2 = 0 := by
  unfold usedL usedL usedL
  simp
theorem own_keptB {w w' : World} {e : TypeId} {v : Value} {n : Nat} {xs : List Value} (h : w.ownsRow 0 e 1 v n xs) (hb : Below w.heap.size w w') : w'.ownsRow 0 e 1 v n xs := by
  refine ⟨h.1, ?_⟩
  rcases h.2 with hx | ⟨g, cap, cur, hv, hbg, hh, r⟩
  · exact .inl hx
  · exact .inr ⟨g, cap, cur, hv, hbg, (hb.block g (Array.getElem?_eq_some_iff.1 hh).1).trans hh, r⟩
theorem int_info : ∃ i, Tryd.prog.info? 3 = some i ∧ i.zero = some (.int .i64 0) ∧ i.size = 1 ∧ i.bytes = 8 := by
  have : (Tryd.prog.info? 3).map (fun i => (i.zero, i.size, i.bytes)) = some (some (.int .i64 0), 1, 8) := by kernel_rfl
  cases hq : Tryd.prog.info? 3 with
  | none => rw [hq] at this; cases this
  | some i =>
    rw [hq] at this
    simp only [Option.map_some, Option.some.injEq, Prod.mk.injEq] at this
    exact ⟨i, rfl, this.1, this.2.1, this.2.2⟩
/-- A row of the call's own (blocks from B on) that grows by one. -/
theorem own_grow (w wr : World) (v : Value) (n : Nat) (xs : List Value) (h : wr.ownsRow 0 3 1 v n xs) (hv : ∀ k, v.ownBlock = some k → w.heap.size ≤ k) (hb : Below w.heap.size w wr) (x : Int) (hn : n ≤ 100000) :
    ∃ v' w', (Builtin.append_ #[23, 23] 23 #[v, .slice (some ⟨wr.heap.size, 0, none⟩) 1 1]).run Tryd.prog (wr.alloc (.cells #[.int .i64 x] 3)) = .ok v' w' ∧ w'.ownsRow 0 3 1 v' (n + 1) (xs ++ [.int .i64 x]) ∧ (∀ k, v'.ownBlock = some k → w.heap.size ≤ k) ∧ Below w.heap.size w w' := by
  obtain ⟨i, hinfo, hz0, hz1, hz2⟩ := int_info
  have hu : (wr.alloc (.cells #[.int .i64 x] 3)).cell? ⟨wr.heap.size, 0, none⟩ = some (.int .i64 x) := by rw [World.cell?_alloc_new]; rfl
  obtain ⟨v', w5, k, hap, hown, hgrow, hkb, hkc⟩ := append_one Tryd.prog (wr.alloc (.cells #[.int .i64 x] 3)) 23 23 3 i _ Tryd.underlying23 hinfo hz0 hz1 hz2 rfl v n _ (own_keptB h ((Below.refl _ _).alloc (Nat.le_refl _) _)) wr.heap.size _ hu rfl (by omega)
  have hbs := hb.size
  refine ⟨v', w5, hap, hown, fun q hq => ?_, ?_⟩
  · rw [hkb] at hq
    injection hq with hq
    subst hq
    rcases hkc with h1 | h1
    · exact hv _ h1
    · have : (wr.alloc (.cells #[.int .i64 x] 3)).heap.size = wr.heap.size + 1 := by simp
      omega
  · have h1 := Frm.grown (F := fun _ => False) (a := w) (w := wr.alloc (.cells #[.int .i64 x] 3)) (w' := w5) ((Frm.of_below hb).alloc _) hgrow (fun k hk => .inr (hv k hk))
    exact h1.below (fun i hi => hi.elim) (Nat.le_refl _)
set_option maxHeartbeats 3200000 in
set_option maxRecDepth 20000 in
theorem usedlist_is (w : World) (s d : Nat) (dk : DkS) (st : ShS) (FD F : Nat → Prop) (hd : Dk w d dk FD) (h : Sto w s d st F) :
    Calls Tryd.prog 19 #[.pointer (some ⟨s, 0, none⟩)] w fun e w' => (∃ a cap, e = .returned (.slice a (usedN st dk.S.length) cap)) ∧ Below w.heap.size w w' := by
  have hz := hd.ok.few
  have h8 := hd.ok.least
  have SZ := Lib.hid (fun w' (hb : Below w.heap.size w w') => stosize_is w' s d st F (h.below hb) dk FD (hd.below hb))
  have US := Lib.hid (fun (k : Nat) (hk : k ≤ 640) w' (hb : Below w.heap.size w w') => used_is w' s d st F (h.below hb) (k : Int) (by omega))
  have UL := Lib.hid (usedL_le st dk.S.length)
  have U2 := Lib.hid (usedL_2 st dk.S.length)
  have UN : Hid (usedN st dk.S.length = usedL st dk.S.length dk.S.length) := Lib.hid rfl
  have UT := Lib.hid (fun k => show usedL st dk.S.length (k + 1) = usedL st dk.S.length k + (if 2 ≤ k ∧ hasB st.h.used (k : Int) = true then 1 else 0) from rfl)
  clear hd h
  generalize dk.S.length = sz at *
  go_enter Tryd.func19, Tryd.ntmps19
  go_wp2_with fail
  go_loopw [3, 4] (fun v i wr => ∃ (k n : Nat) (xs : List Value), 2 ≤ k ∧ k ≤ sz ∧ i = .int .i64 (k : Int) ∧ usedL st sz k = n ∧ wr.ownsRow 0 3 1 v n xs ∧ (∀ q, v.ownBlock = some q → w.heap.size ≤ q) ∧ Below w.heap.size w wr) (fun _ i _ => 641 - (intOf i).toNat)
  case atStart => exact ⟨2, 0, [], Nat.le_refl _, by omega, rfl, U2.out, World.ownsRow_nil _ _ _ _, (fun q hq => by cases hq), Below.refl _ _⟩
  case round =>
    obtain ⟨k, n, xs, hk2, hkz, rfl, hul, hown, hvb, hb⟩ := hrel
    have HB := Lib.hid hb
    have HO := Lib.hid hown
    have HV := Lib.hid hvb
    have S1 := Lib.hid (SZ.out wr hb)
    have U1 := Lib.hid (US.out k (by omega) wr hb)
    have ULK := UL.out k
    have UTK := Lib.hid (UT.out k)
    obtain ⟨va, vc, hvv, -, -, -⟩ := Rd.own hown
    have hxl : xs.length = n := by have := hown.1; omega
    rw [hxl] at hvv
    subst hvv
    clear hb hown hvb
    by_cases hlt : k < sz
    · have hkz2 : (k : Int) < (sz : Int) := by omega
      cases hu : hasB st.h.used (k : Int)
      · rw [hu] at U1
        have NXT : Hid (usedL st sz (k + 1) = n) := Lib.hid (by rw [UTK.out, hu, if_neg (by simp), Nat.add_zero]; exact hul)
        go_wp2_with fail
        refine S1.out.mono ?_
        rintro e w1 ⟨rfl, rfl⟩
        go_wp2_with fail
        refine U1.out.mono ?_
        rintro e w1 ⟨rfl, rfl⟩
        go_wp2_with fail
        go_roundw
        case rel => exact ⟨k + 1, n, xs, by omega, by omega, by go_num, NXT.out, HO.out, HV.out, HB.out⟩
        case measure => simp [intOf]; omega
      · rw [hu] at U1
        have NXT : Hid (usedL st sz (k + 1) = n + 1) := Lib.hid (by rw [UTK.out, hu, if_pos ⟨hk2, rfl⟩, hul])
        obtain ⟨v', w5, hap, ho5, hv5, hb5⟩ := own_grow w wr _ n xs HO.out HV.out HB.out (k : Int) (by omega)
        have O5 := Lib.hid ho5
        have V5 := Lib.hid hv5
        have B5 := Lib.hid hb5
        clear ho5 hv5 hb5
        go_wp2_with fail
        refine S1.out.mono ?_
        rintro e w1 ⟨rfl, rfl⟩
        go_wp2_with fail
        refine U1.out.mono ?_
        rintro e w1 ⟨rfl, rfl⟩
        go_wp2_with (at_builtin; refine append_run rfl (.tmp 14) (.tmp 16) 23 rfl _ _ _ rfl rfl hap ?_)
        go_roundw
        case rel => exact ⟨k + 1, n + 1, _, by omega, by omega, by go_num, NXT.out, O5.out, V5.out, B5.out⟩
        case measure => simp [intOf]; omega
    · obtain rfl : k = sz := by omega
      have hkz2 : ¬ (k : Int) < (k : Int) := by omega
      go_wp2_with fail
      refine S1.out.mono ?_
      rintro e w1 ⟨rfl, rfl⟩
      go_wp2_with fail
      try rw [Exit.noGoto_ret]
      go_ret
      exact ⟨⟨va, vc, by rw [UN.out, hul]; rfl⟩, HB.out⟩
end Go.Proofs.YtbjmbndeaobbeaaDoor
namespace Go.Proofs.YtbjmbndeaobbeaaDoor
open Go.RowKit
set_option linter.unusedVariables false

theorem setb_bit : ∀ (c : Fin 256) (k j : Fin 8) (on : Bool), (setb c.val k.val on).testBit j.val = if k.val = j.val then on else c.val.testBit j.val := by decide +kernel
theorem setb_pc : ∀ (c : Fin 256) (k : Fin 8), pc 8 (setb c.val k.val true) = pc 8 (setb c.val k.val false) + 1 := by decide +kernel
theorem setb_same : ∀ (c : Fin 256) (k : Fin 8), setb c.val k.val true = c.val ∨ setb c.val k.val false = c.val := by decide +kernel
theorem u8_setb (c : UInt8) (k : Nat) (hk : k < 8) (on : Bool) : (UInt8.ofNat (setb c.toNat k on)).toNat = setb c.toNat k on := by
  have := setb_lt ⟨c.toNat, UInt8.toNat_lt c⟩ ⟨k, hk⟩ on
  rw [UInt8.toNat_ofNat', Nat.mod_eq_of_lt this]
theorem withL_length (l : List UInt8) (i : Nat) (on : Bool) : (withL l i on).length = l.length := by
  unfold withL; split <;> simp
theorem withB_size (b : ByteArray) (i : Int) (on : Bool) : (withB b i on).size = b.size := by
  unfold withB
  split
  · rw [Str_size, withL_length]; simp
  · rfl
theorem bit_withL (l : List UInt8) (i j : Nat) (on : Bool) (h : i / 8 < l.length) : bitL (withL l i on) j = if i = j then on else bitL l j := by
  unfold bitL
  by_cases hj : j / 8 < l.length
  · rw [dif_pos (by rw [withL_length]; exact hj), dif_pos hj]
    have hk : i % 8 < 8 := by omega
    have hk2 : j % 8 < 8 := by omega
    simp only [withL, dif_pos h]
    rw [List.getElem_set]
    by_cases e : i / 8 = j / 8
    · rw [if_pos e, u8_setb _ _ hk]
      have := setb_bit ⟨(l[i / 8]).toNat, UInt8.toNat_lt _⟩ ⟨i % 8, hk⟩ ⟨j % 8, hk2⟩ on
      simp only at this
      rw [this]
      by_cases e2 : i % 8 = j % 8
      · rw [if_pos e2, if_pos (by omega)]
      · rw [if_neg e2, if_neg (by omega)]
        simp only [e]
    · rw [if_neg e, if_neg (by omega)]
  · rw [dif_neg (by rw [withL_length]; exact hj), dif_neg hj, if_neg (by omega)]
theorem room_iff (b : ByteArray) (i : Int) : roomB b i = true ↔ (0 ≤ i ∧ i < 8 * (b.size : Int)) := by unfold roomB; simp
theorem has_with (b : ByteArray) (i j : Int) (on : Bool) (h : roomB b i = true) : hasB (withB b i on) j = if j = i then on else hasB b j := by
  rw [room_iff] at h
  obtain ⟨n, rfl⟩ := Int.eq_ofNat_of_zero_le h.1
  have hr : roomB b (n : Int) = true := (room_iff b n).2 h
  have hl : n / 8 < b.data.toList.length := by simp; omega
  unfold hasB withB
  rw [hr, if_pos rfl, Str_list, Int.toNat_natCast, bit_withL _ _ _ _ hl]
  by_cases h0 : 0 ≤ j
  · obtain ⟨m, rfl⟩ := Int.eq_ofNat_of_zero_le h0
    rw [Int.toNat_natCast]
    by_cases e : n = m
    · subst e; simp
    · rw [if_neg e, if_neg (by omega)]
  · have hne : ¬ j = (n : Int) := by omega
    rw [if_neg hne]
    simp [h0]
theorem cntL_set (l : List UInt8) (i : Nat) (c : UInt8) (h : i < l.length) : cntL (l.set i c) + pc 8 (l[i]).toNat = cntL l + pc 8 c.toNat := by
  induction l generalizing i with
  | nil => simp at h
  | cons d l ih =>
    cases i with
    | zero => simp [cntL]; omega
    | succ i =>
      have := ih i (by simpa using h)
      simp only [cntL, List.set_cons_succ, List.map_cons, List.sum_cons, List.getElem_cons_succ] at this ⊢
      omega
theorem cnt_with (b : ByteArray) (i : Int) (h : roomB b i = true) : cntL (withB b i true).data.toList = cntL (withB b i false).data.toList + 1 := by
  rw [room_iff] at h
  obtain ⟨n, rfl⟩ := Int.eq_ofNat_of_zero_le h.1
  have hr : roomB b (n : Int) = true := (room_iff b n).2 h
  have hl : n / 8 < b.data.toList.length := by simp; omega
  rw [withB_yes b n true hr hl, withB_yes b n false hr hl, Str_list, Str_list]
  have h1 := cntL_set b.data.toList (n / 8) (UInt8.ofNat (setb (b.data.toList[n / 8]).toNat (n % 8) true)) hl
  have h2 := cntL_set b.data.toList (n / 8) (UInt8.ofNat (setb (b.data.toList[n / 8]).toNat (n % 8) false)) hl
  have hk : n % 8 < 8 := by omega
  rw [u8_setb _ _ hk] at h1 h2
  have := setb_pc ⟨(b.data.toList[n / 8]).toNat, UInt8.toNat_lt _⟩ ⟨n % 8, hk⟩
  simp only at this
  omega
theorem with_same (b : ByteArray) (i : Int) (h : roomB b i = true) : withB b i true = b ∨ withB b i false = b := by
  rw [room_iff] at h
  obtain ⟨n, rfl⟩ := Int.eq_ofNat_of_zero_le h.1
  have hr : roomB b (n : Int) = true := (room_iff b n).2 h
  have hl : n / 8 < b.data.toList.length := by simp; omega
  have hk : n % 8 < 8 := by omega
  rw [withB_yes b n true hr hl, withB_yes b n false hr hl]
  rcases setb_same ⟨(b.data.toList[n / 8]).toNat, UInt8.toNat_lt _⟩ ⟨n % 8, hk⟩ with e | e
  · left
    simp only at e
    rw [e, UInt8.ofNat_toNat, List.set_getElem_self, Str_of]
  · right
    simp only at e
    rw [e, UInt8.ofNat_toNat, List.set_getElem_self, Str_of]
theorem with_out (b : ByteArray) (i : Int) (on : Bool) (h : roomB b i = false) : withB b i on = b := by unfold withB; rw [h]; rfl
end Go.Proofs.YtbjmbndeaobbeaaDoor
namespace Go.Proofs.YtbjmbndeaobbeaaDoor
open Go.RowKit
set_option linter.unusedVariables false
set_option linter.unusedSimpArgs false
theorem byte_ext (a b : UInt8) (h : ∀ k, k < 8 → a.toNat.testBit k = b.toNat.testBit k) : a = b := by
  apply UInt8.toNat_inj.1
  apply Nat.eq_of_testBit_eq
  intro k
  by_cases hk : k < 8
  · exact h k hk
  · have h1 : ∀ c : UInt8, c.toNat.testBit k = false := fun c => by
      apply Nat.testBit_lt_two_pow
      have := UInt8.toNat_lt c
      have h2 : 2 ^ 8 ≤ 2 ^ k := Nat.pow_le_pow_right (by decide) (by omega)
      omega
    rw [h1, h1]
theorem bits_ext {a b : ByteArray} (hs : a.size = b.size) (h : ∀ i : Nat, hasB a (i : Int) = hasB b (i : Int)) : a = b := by
  apply eq_of_data
  apply List.ext_getElem
  · rw [size_list, size_list, hs]
  · intro j h1 h2
    apply byte_ext
    intro k hk
    have hi := h (8 * j + k)
    have e1 : (8 * j + k) / 8 = j := by omega
    have e2 : (8 * j + k) % 8 = k := by omega
    have h0 : decide ((0 : Int) ≤ ((8 * j + k : Nat) : Int)) = true := decide_eq_true (by omega)
    unfold hasB at hi
    rw [h0, Bool.true_and, Bool.true_and] at hi
    simp only [Int.toNat_natCast, bitL, e1, e2, h1, h2, dif_pos] at hi
    exact hi
def withAll (u : ByteArray) (L : List Int) (on : Bool) : ByteArray := L.foldl (fun u n => withB u n on) u
theorem withAll_size (L : List Int) (on : Bool) : ∀ u, (withAll u L on).size = u.size := by
  induction L with
  | nil => intro u; rfl
  | cons n L ih => intro u; show (withAll (withB u n on) L on).size = _; rw [ih, withB_size]
theorem room_size {a b : ByteArray} (h : a.size = b.size) (i : Int) : roomB a i = roomB b i := by unfold roomB; rw [h]
theorem has_withAll (L : List Int) (on : Bool) (i : Int) : ∀ u, (∀ x ∈ L, roomB u x = true) → hasB (withAll u L on) i = if i ∈ L then on else hasB u i := by
  induction L with
  | nil => intro u _; rw [if_neg (by simp)]; rfl
  | cons n L ih =>
    intro u hr
    show hasB (withAll (withB u n on) L on) i = _
    rw [ih _ (fun x hx => by rw [room_size (withB_size u n on)]; exact hr x (by simp [hx])), has_with u n i on (hr n (by simp))]
    by_cases h1 : i ∈ L
    · rw [if_pos h1, if_pos (by simp [h1])]
    · rw [if_neg h1]
      by_cases h2 : i = n
      · rw [if_pos h2, if_pos (by simp [h2])]
      · rw [if_neg h2, if_neg (by simp [h1, h2])]
end Go.Proofs.YtbjmbndeaobbeaaDoor
namespace Go.Proofs.YtbjmbndeaobbeaaDoor
open Go.RowKit
set_option linter.unusedVariables false
set_option linter.unusedSimpArgs false
def leftLen (w : World) (r m : Nat) : Nat :=
  match w.heap[m]?, w.heap[r]? with
  | some (.map es _), some (.mapIter _ _ seen _) => (leftOf es seen).size
  | _, _ => 0
theorem RangeS.len {w : World} {r m : Nat} {L left : List Int} (h : RangeS w r m L left) : leftLen w r m = left.length := by
  obtain ⟨es, c, s, sn, l, h1, h2, h3, h4, h5, h6, h6', h7⟩ := h
  unfold leftLen
  rw [h1, h4]
  have := congrArg List.length h7
  simpa using this
theorem filter_less {l : List Int} {n : Int} (h : n ∈ l) : (l.filter fun x => decide (x ≠ n)).length < l.length := by
  induction l with
  | nil => cases h
  | cons a l ih =>
    by_cases e : a = n
    · rw [List.filter_cons_of_neg (by simp [e])]
      have := List.length_filter_le (fun x => decide (x ≠ n)) l
      simp only [List.length_cons]; omega
    · rw [List.filter_cons_of_pos (by simpa using e)]
      have h2 : n ∈ l := by
        rcases List.mem_cons.1 h with h3 | h3
        · exact absurd h3.symm e
        · exact h3
      have := ih h2
      simp only [List.length_cons]; omega
def nextU (st : ShS) : ByteArray := withAll (withAll st.h.used st.fresh true) st.given false
def nextH (st : ShS) (root : Int) : HdS := ⟨st.h.gen + 1, root, nextU st⟩
/-- What has been put in, or taken out, when some are left to come. -/
def Part (u base : ByteArray) (L left : List Int) (on : Bool) : Prop := u.size = base.size ∧ ∀ i : Int, hasB u i = if i ∈ L ∧ i ∉ left then on else hasB base i
theorem Part.start (base : ByteArray) (L : List Int) (on : Bool) : Part base base L L on := ⟨rfl, fun i => by rw [if_neg (by simp)]⟩
theorem Part.step {u base : ByteArray} {L left : List Int} {on : Bool} (h : Part u base L left on) (n : Int) (hn : n ∈ left) (hL : n ∈ L) (hr : roomB base n = true) : Part (withB u n on) base L (left.filter fun x => decide (x ≠ n)) on := by
  refine ⟨(withB_size u n on).trans h.1, fun i => ?_⟩
  rw [has_with u n i on (by rw [room_size h.1]; exact hr)]
  by_cases e : i = n
  · subst e
    rw [if_pos rfl, if_pos ⟨hL, by simp⟩]
  · rw [if_neg e, h.2 i]
    by_cases h2 : i ∈ L ∧ i ∉ left
    · rw [if_pos h2, if_pos ⟨h2.1, fun hx => h2.2 (List.mem_filter.1 hx).1⟩]
    · rw [if_neg h2, if_neg (fun hx => h2 ⟨hx.1, fun hl => hx.2 (List.mem_filter.2 ⟨hl, by simpa using e⟩)⟩)]
theorem Part.done {u base : ByteArray} {L : List Int} {on : Bool} (h : Part u base L [] on) (hr : ∀ x ∈ L, roomB base x = true) : u = withAll base L on := by
  refine bits_ext (h.1.trans (withAll_size L on base).symm) fun i => ?_
  rw [h.2, has_withAll L on _ base hr]
  by_cases e : ((i : Nat) : Int) ∈ L
  · rw [if_pos ⟨e, by simp⟩, if_pos e]
  · rw [if_neg (fun hx => e hx.1), if_neg e]
theorem room80 {b : ByteArray} (h : b.size = 80) {x : Int} (h1 : 2 ≤ x) (h2 : x < 640) : roomB b x = true := (room_iff b x).2 ⟨by omega, by rw [h]; omega⟩
set_option maxHeartbeats 6400000 in
set_option maxRecDepth 20000 in
theorem next_is (w : World) (s d : Nat) (st : ShS) (F : Nat → Prop) (h : Sto w s d st F) (root : Int) (hg : st.h.gen ≤ 281474976710654) :
    Calls Tryd.prog 33 #[.pointer (some ⟨s, 0, none⟩), .int .i64 root] w fun e w' => e = .returned (hdV (nextH st root)) ∧ Below w.heap.size w w' := by
  obtain ⟨f0, g0, hi0, he0⟩ := h
  have W1 : Hid (∀ n u w', n < 9223372036854775808 → Calls Tryd.prog 46 #[.string u, .int .i64 n, .bool true] w' fun e w'' => e = .returned (.string (withB u n true)) ∧ Below w'.heap.size w' w'') := Lib.hid (fun n u w' hn => with_any u n true w' hn)
  have W2 : Hid (∀ n u w', n < 9223372036854775808 → Calls Tryd.prog 46 #[.string u, .int .i64 n, .bool false] w' fun e w'' => e = .returned (.string (withB u n false)) ∧ Below w'.heap.size w' w'') := Lib.hid (fun n u w' hn => with_any u n false w' hn)
  have CE := Lib.hid (fun w' (hb : Below w.heap.size w w') => (hi0.kept (fun k hk => hb.block k (hi0.lt k hk))).cells)
  have FF := Lib.hid (fun w' (hb : Below w.heap.size w w') => (hi0.kept (fun k hk => hb.block k (hi0.lt k hk))).fr)
  have GG := Lib.hid (fun w' (hb : Below w.heap.size w w') => (hi0.kept (fun k hk => hb.block k (hi0.lt k hk))).gv)
  have hfl := hi0.fr.lt
  have hgl := hi0.gv.lt
  have FB := Lib.hid hi0.fb
  have GB := Lib.hid hi0.gb
  have hu80 := hi0.ok.u
  have hg0 := hi0.ok.g0
  have RF := Lib.hid (fun x (hx : x ∈ st.fresh) => room80 hu80 (hi0.fb x hx).1 (hi0.fb x hx).2)
  have RG := Lib.hid (fun x (hx : x ∈ st.given) => room80 ((withAll_size st.fresh true st.h.used).trans hu80) (hi0.gb x hx).1 (hi0.gb x hx).2)
  have DF := Lib.hid (fun u (hp : Part u st.h.used st.fresh [] true) => hp.done RF.out)
  have DG := Lib.hid (fun u (hp : Part u (withAll st.h.used st.fresh true) st.given [] false) => hp.done RG.out)
  have X0 := Lib.hid (heap_alloc_new w (.cells #[.int .i64 0, .int .i64 0, .string ⟨#[]⟩] 54))
  have B0 := Lib.hid (below_made w (.cells #[.int .i64 0, .int .i64 0, .string ⟨#[]⟩] 54))
  obtain ⟨wa, hwa⟩ : ∃ wa, w.alloc (.cells #[.int .i64 0, .int .i64 0, .string ⟨#[]⟩] 54) = wa := ⟨_, rfl⟩
  have HNX : Hid (nextH st root = ⟨st.h.gen + 1, root, nextU st⟩) := Lib.hid rfl
  have HNU : Hid (nextU st = withAll (withAll st.h.used st.fresh true) st.given false) := Lib.hid rfl
  have hgw : IntKind.i64.wrap (st.h.gen + 1) = st.h.gen + 1 := by rw [IntKind.wrap_i64]; omega
  rw [hwa] at X0 B0
  obtain ⟨w1, hrun1, hr1, b1, sz1⟩ := rangeS (P := Tryd.prog) Tryd.underlying56 (FF.out wa B0.out)
  have R1 := Lib.hid hr1
  have B1 := Lib.hid (chain B0.out b1)
  have X1 := Lib.hid (kept X0.out b1)
  obtain ⟨x0, x1, x2, x3, x4, x5, x6⟩ := CE.out wa B0.out
  have hsa : wa.heap.size = w.heap.size + 1 := by rw [← hwa]; simp
  obtain ⟨r, hrr⟩ : ∃ r, wa.heap.size = r := ⟨_, rfl⟩
  have HRR : Hid (w.heap.size < r ∧ r < w1.heap.size) := Lib.hid (by omega)
  rw [hrr] at hrun1 R1
  have HWA := Lib.hid hwa
  unfold hdV
  clear hi0 he0 hr1 b1 sz1 hwa hsa hrr hu80
  go_enter Tryd.func33, Tryd.ntmps33
  go_upto_region 1 with fail
  rw [HWA.out]
  go_wp2_with fail
  clear x0 x1 x2 x3 x4 x5 x6 hrun1
  go_loopw [5] (fun u wr => ∃ left ub, u = .string ub ∧ RangeS wr r f0 st.fresh left ∧ Part ub st.h.used st.fresh left true ∧ Below w.heap.size w wr ∧ wr.heap[w.heap.size]? = some (.cells #[.int .i64 0, .int .i64 0, .string ⟨#[]⟩] 54)) (fun _ wr => leftLen wr r f0)
  case atStart => exact ⟨_, _, rfl, R1.out, Part.start _ _ _, B1.out, X1.out⟩
  case round =>
    obtain ⟨left, ub, rfl, hR, hP, hb, hX⟩ := hrel
    have hsub := hR.sub.1
    have hln := Lib.hid hR.len
    have PP := Lib.hid hP
    have BB := Lib.hid hb
    have XX := Lib.hid hX
    rcases nextS (P := Tryd.prog) hR 0 with ⟨rfl, hnx⟩ | ⟨n, hn, w2, hnx, hR2, hf2, hs2, hen⟩
    · have hue := DF.out ub hP
      subst hue
      obtain ⟨w3, hrun2, hr2, b2, sz2⟩ := rangeS (P := Tryd.prog) Tryd.underlying56 (GG.out wr hb)
      obtain ⟨x0, x1, x2, x3, x4, x5, x6⟩ := CE.out wr hb
      have R2 := Lib.hid hr2
      have B2 := Lib.hid (chain hb b2)
      have X2 := Lib.hid (kept hX b2)
      have hlw : w.heap.size < wr.heap.size := (Array.getElem?_eq_some_iff.1 hX).1
      obtain ⟨q, hqq⟩ : ∃ q, wr.heap.size = q := ⟨_, rfl⟩
      have HQQ : Hid (w.heap.size < q) := Lib.hid (by omega)
      rw [hqq] at hrun2 R2
      clear hR hP hb hX hr2 b2 sz2 hqq PP BB XX hsub hln hlw
      go_wp2_with fail
      clear x0 x1 x2 x3 x4 x5 x6 hrun2 hnx
      go_loopw [5] (fun u wr => ∃ left ub, u = .string ub ∧ RangeS wr q g0 st.given left ∧ Part ub (withAll st.h.used st.fresh true) st.given left false ∧ Below w.heap.size w wr ∧ wr.heap[w.heap.size]? = some (.cells #[.int .i64 0, .int .i64 0, .string ⟨#[]⟩] 54)) (fun _ wr => leftLen wr q g0)
      case atStart => exact ⟨_, _, rfl, R2.out, Part.start _ _ _, B2.out, X2.out⟩
      case round =>
        obtain ⟨left, ub, rfl, hR, hP, hb, hX⟩ := hrel
        have hsub := hR.sub.1
        have hln := Lib.hid hR.len
        have PP := Lib.hid hP
        have BB := Lib.hid hb
        have XX := Lib.hid hX
        rcases nextS (P := Tryd.prog) hR 0 with ⟨rfl, hnx⟩ | ⟨n, hn, w4, hnx, hR4, hf4, hs4, hen⟩
        · have hue := DG.out ub hP
          rw [← HNU.out] at hue
          subst hue
          obtain ⟨x0, x1, x2, x3, x4, x5, x6⟩ := CE.out _ hb
          have y0 : wr.cell? ⟨w.heap.size, 0, none⟩ = some (.int .i64 0) := by rw [Go.Joins.cell_of_block hX]; rfl
          have y1 : wr.cell? ⟨w.heap.size, 1, none⟩ = some (.int .i64 0) := by rw [Go.Joins.cell_of_block hX]; rfl
          have y2 : wr.cell? ⟨w.heap.size, 2, none⟩ = some (.string ⟨#[]⟩) := by rw [Go.Joins.cell_of_block hX]; rfl
          have f0' := Go.Joins.unfrozen_of_block hX 0
          have f1' := Go.Joins.unfrozen_of_block hX 1
          have f2' := Go.Joins.unfrozen_of_block hX 2
          have XR : (((wr.setCell ⟨w.heap.size, 0, none⟩ (.int .i64 (st.h.gen + 1))).setCell ⟨w.heap.size, 1, none⟩ (.int .i64 root)).setCell ⟨w.heap.size, 2, none⟩ (.string (nextU st))).heap[w.heap.size]? = some (.cells #[.int .i64 (st.h.gen + 1), .int .i64 root, .string (nextU st)] 54) := by
            rw [heap_setCell_same _ _ 2 _ _ _ (heap_setCell_same _ _ 1 _ _ _ (heap_setCell_same _ _ 0 _ _ _ hX))]
            rfl
          have Z0 : Hid ((((wr.setCell ⟨w.heap.size, 0, none⟩ (.int .i64 (st.h.gen + 1))).setCell ⟨w.heap.size, 1, none⟩ (.int .i64 root)).setCell ⟨w.heap.size, 2, none⟩ (.string (nextU st))).cell? ⟨w.heap.size, 0, none⟩ = some (.int .i64 (st.h.gen + 1))) := Lib.hid (by rw [Go.Joins.cell_of_block XR]; rfl)
          have Z1 : Hid ((((wr.setCell ⟨w.heap.size, 0, none⟩ (.int .i64 (st.h.gen + 1))).setCell ⟨w.heap.size, 1, none⟩ (.int .i64 root)).setCell ⟨w.heap.size, 2, none⟩ (.string (nextU st))).cell? ⟨w.heap.size, 1, none⟩ = some (.int .i64 root)) := Lib.hid (by rw [Go.Joins.cell_of_block XR]; rfl)
          have Z2 : Hid ((((wr.setCell ⟨w.heap.size, 0, none⟩ (.int .i64 (st.h.gen + 1))).setCell ⟨w.heap.size, 1, none⟩ (.int .i64 root)).setCell ⟨w.heap.size, 2, none⟩ (.string (nextU st))).cell? ⟨w.heap.size, 2, none⟩ = some (.string (nextU st))) := Lib.hid (by rw [Go.Joins.cell_of_block XR]; rfl)
          have FIN : Hid (Below w.heap.size w (((wr.setCell ⟨w.heap.size, 0, none⟩ (.int .i64 (st.h.gen + 1))).setCell ⟨w.heap.size, 1, none⟩ (.int .i64 root)).setCell ⟨w.heap.size, 2, none⟩ (.string (nextU st)))) := Lib.hid (((hb.setCell (Nat.le_refl _) _).setCell (Nat.le_refl _) _).setCell (Nat.le_refl _) _)
          clear hR hP hb hX hsub PP BB XX XR hln
          go_wp2_with fail
          exact bodyPost_ret (v := .agg #[.int .i64 (st.h.gen + 1), .int .i64 root, .string (nextU st)]) (by simp [results, Tryd.results33, go_sem, Z0.out, Z1.out, Z2.out]) rfl ⟨rfl, FIN.out⟩
        · have R4 := Lib.hid hR4
          have P4 := Lib.hid (hP.step n hn (hsub n hn) (RG.out n (hsub n hn)))
          have hgb := GB.out n (hsub n hn)
          have B4 : Hid (Below w.heap.size w w4) := Lib.hid (hb.trans (hf4.below (fun i hi => by have hi : i = q := hi; have := HQQ.out; omega) hb.size))
          have X4 : Hid (w4.heap[w.heap.size]? = some (.cells #[.int .i64 0, .int .i64 0, .string ⟨#[]⟩] 54)) := Lib.hid ((hf4.block _ (Array.getElem?_eq_some_iff.1 hX).1 (by show ¬ w.heap.size = q; have := HQQ.out; omega)).trans hX)
          have ML := Lib.hid (filter_less hn)
          clear hR hP hb hX hR4 hf4 hs4 hsub hn PP BB XX
          unfold unitV at hnx hen
          go_wp2_with fail
          refine (W2.out n ub w4 (by omega)).mono ?_
          rintro e w5 ⟨rfl, b5⟩
          have R5 := Lib.hid (R4.out.kept (b5.block _ R4.out.set.lt) (b5.block _ R4.out.lt))
          have B5 := Lib.hid (chain B4.out b5)
          have X5 := Lib.hid (kept X4.out b5)
          clear b5 hnx hen
          go_wp2_with fail
          go_roundw
          case rel => exact ⟨_, _, rfl, R5.out, P4.out, B5.out, X5.out⟩
          case measure => rw [R5.out.len, hln.out]; exact ML.out
    · have R4 := Lib.hid hR2
      have P4 := Lib.hid (hP.step n hn (hsub n hn) (RF.out n (hsub n hn)))
      have hgb := FB.out n (hsub n hn)
      have B4 : Hid (Below w.heap.size w w2) := Lib.hid (hb.trans (hf2.below (fun i hi => by have hi : i = r := hi; have := HRR.out; omega) hb.size))
      have X4 : Hid (w2.heap[w.heap.size]? = some (.cells #[.int .i64 0, .int .i64 0, .string ⟨#[]⟩] 54)) := Lib.hid ((hf2.block _ (Array.getElem?_eq_some_iff.1 hX).1 (by show ¬ w.heap.size = r; have := HRR.out; omega)).trans hX)
      have ML := Lib.hid (filter_less hn)
      clear hR hP hb hX hR2 hf2 hs2 hsub hn PP BB XX
      unfold unitV at hnx hen
      go_wp2_with fail
      refine (W1.out n ub w2 (by omega)).mono ?_
      rintro e w5 ⟨rfl, b5⟩
      have R5 := Lib.hid (R4.out.kept (b5.block _ R4.out.set.lt) (b5.block _ R4.out.lt))
      have B5 := Lib.hid (chain B4.out b5)
      have X5 := Lib.hid (kept X4.out b5)
      clear b5 hnx hen
      go_wp2_with fail
      go_roundw
      case rel => exact ⟨_, _, rfl, R5.out, P4.out, B5.out, X5.out⟩
      case measure => rw [R5.out.len, hln.out]; exact ML.out
end Go.Proofs.YtbjmbndeaobbeaaDoor
namespace Go.Proofs.YtbjmbndeaobbeaaDoor
open Go.RowKit
set_option linter.unusedVariables false
set_option linter.unusedSimpArgs false
theorem Sto.disk {w : World} {s d : Nat} {st : ShS} {F : Nat → Prop} (h : Sto w s d st F) : w.cell? ⟨s, 0, none⟩ = some (.pointer (some ⟨d, 0, none⟩)) := by
  obtain ⟨f, g, hi, he⟩ := h
  exact hi.cells.1
theorem Sto.cells {w : World} {s d : Nat} {st : ShS} {F : Nat → Prop} (h : Sto w s d st F) : ∃ f g, w.cell? ⟨s, 0, none⟩ = some (.pointer (some ⟨d, 0, none⟩)) ∧ w.cell? ⟨s, 1, none⟩ = some (.int .i64 st.h.gen) ∧ w.cell? ⟨s, 2, none⟩ = some (.int .i64 st.h.root) ∧ w.cell? ⟨s, 3, none⟩ = some (.string st.h.used) ∧ w.cell? ⟨s, 4, none⟩ = some (.map (some f)) ∧ w.cell? ⟨s, 5, none⟩ = some (.map (some g)) ∧ w.cell? ⟨s, 6, none⟩ = some (.bool st.up) ∧ ∀ k, w.frozen? ⟨s, k, none⟩ = false := by
  obtain ⟨f, g, hi, he⟩ := h
  obtain ⟨c0, c1, c2, c3, c4, c5, c6⟩ := hi.cells
  exact ⟨f, g, c0, c1, c2, c3, c4, c5, c6, hi.free⟩
theorem DSPost.next {w wc w2 : World} {d s : Nat} {dk1 dk2 : DkS} {st1 st2 : ShS} {FD FS : Nat → Prop} (hp : DSPost w d s FD FS dk1 st1 wc) (h : ∀ FD', DS wc d s dk1 st1 FD' FS → DSPost wc d s FD' FS dk2 st2 w2) : DSPost w d s FD FS dk2 st2 w2 := by
  obtain ⟨FD', h1, f1, n1⟩ := hp
  exact DSPost.trans (dk1 := dk1) (st1 := st1) f1.size f1 n1 (h FD' h1)
theorem StoIn.setHead {w : World} {s d f g : Nat} {st : ShS} (h : StoIn w s d f g st) (H : HdS) (hok : HdOk H) : StoIn (((w.setCell ⟨s, 1, none⟩ (.int .i64 H.gen)).setCell ⟨s, 2, none⟩ (.int .i64 H.root)).setCell ⟨s, 3, none⟩ (.string H.used)) s d f g { st with h := H } :=
  { cell := by
      rw [heap_setCell_same _ _ 3 _ _ _ (heap_setCell_same _ _ 2 _ _ _ (heap_setCell_same _ _ 1 _ _ _ h.cell))]
      rfl
    fr := h.fr.kept (by rw [Below.heap_setCell _ _ _ _ (show f ≠ (⟨s, 3, none⟩ : Addr).block from Ne.symm h.sf), Below.heap_setCell _ _ _ _ (show f ≠ (⟨s, 2, none⟩ : Addr).block from Ne.symm h.sf), Below.heap_setCell _ _ _ _ (show f ≠ (⟨s, 1, none⟩ : Addr).block from Ne.symm h.sf)])
    gv := h.gv.kept (by rw [Below.heap_setCell _ _ _ _ (show g ≠ (⟨s, 3, none⟩ : Addr).block from Ne.symm h.sg), Below.heap_setCell _ _ _ _ (show g ≠ (⟨s, 2, none⟩ : Addr).block from Ne.symm h.sg), Below.heap_setCell _ _ _ _ (show g ≠ (⟨s, 1, none⟩ : Addr).block from Ne.symm h.sg)])
    sf := h.sf
    sg := h.sg
    fg := h.fg
    ok := hok
    fb := h.fb
    gb := h.gb }
theorem Sto.setHead {w : World} {s d : Nat} {st : ShS} {F : Nat → Prop} (h : Sto w s d st F) (H : HdS) (hok : HdOk H) : Sto (((w.setCell ⟨s, 1, none⟩ (.int .i64 H.gen)).setCell ⟨s, 2, none⟩ (.int .i64 H.root)).setCell ⟨s, 3, none⟩ (.string H.used)) s d { st with h := H } F ∧ Frm F w (((w.setCell ⟨s, 1, none⟩ (.int .i64 H.gen)).setCell ⟨s, 2, none⟩ (.int .i64 H.root)).setCell ⟨s, 3, none⟩ (.string H.used)) := by
  obtain ⟨f, g, hi, he⟩ := h
  have hs : F s := (he s).2 (.inl rfl)
  exact ⟨⟨f, g, hi.setHead H hok, he⟩, (((Frm.refl F w).setCell _ _ (.inl hs)).setCell _ _ (.inl hs)).setCell _ _ (.inl hs)⟩
theorem hasB_in80 {b : ByteArray} (h : b.size = 80) {n : Int} (hn : hasB b n = true) : 0 ≤ n ∧ n < 640 := by
  by_cases hr : 0 ≤ n ∧ n < 8 * (b.size : Int)
  · omega
  · rw [hasB_out b n hr] at hn; cases hn
theorem Sto.okh {w : World} {s d : Nat} {st : ShS} {F : Nat → Prop} (h : Sto w s d st F) : HdOk st.h := by
  obtain ⟨f, g, hi, he⟩ := h
  exact hi.ok
theorem may_rng {w : World} {s d : Nat} {st : ShS} {F : Nat → Prop} (h : Sto w s d st F) {n : Int} (hm : mayB st n = true) : 0 ≤ n ∧ n < 640 := by
  obtain ⟨f, g, hi, he⟩ := h
  unfold mayB at hm
  simp only [Bool.or_eq_true, decide_eq_true_eq, Bool.and_eq_true] at hm
  rcases hm with (rfl | hm) | hm
  · omega
  · have := hi.fb n hm; omega
  · exact hasB_in80 hi.ok.u hm.1
theorem nextH_ok {st : ShS} (h : HdOk st.h) {root : Int} (hr : 0 ≤ root ∧ root < 640) (hg : st.h.gen ≤ 281474976710654) : HdOk (nextH st root) :=
  ⟨by have := h.g0; show 0 ≤ st.h.gen + 1; omega, by show st.h.gen + 1 ≤ _; omega, hr.1, by show root ≤ _; omega, by show (nextU st).size = 80; unfold nextU; rw [withAll_size, withAll_size]; exact h.u⟩
def ShS.commit (st : ShS) (dk : DkS) (root : Int) : DkS × ShS × Int :=
  if st.up = false then (dk, st, 5) else if mayB st root = false then (dk, st, 1) else if st.h.gen = 281474976710655 then (dk, st, 6)
  else if dk.sync.2 ≠ 0 then (dk.sync.1, st.told dk.sync.2, dk.sync.2)
  else if (wrHead dk.sync.1 (nextH st root)).2 ≠ 0 then ((wrHead dk.sync.1 (nextH st root)).1, st.told (wrHead dk.sync.1 (nextH st root)).2, (wrHead dk.sync.1 (nextH st root)).2)
  else ((wrHead dk.sync.1 (nextH st root)).1, ⟨nextH st root, [], [], st.up⟩, 0)
theorem told_0 (st : ShS) : st.told 0 = st := by unfold ShS.told; rw [if_neg (by decide)]
set_option maxHeartbeats 1600000 in
set_option maxRecDepth 20000 in
theorem commit_down (w : World) (d s : Nat) (dk : DkS) (st : ShS) (FD FS : Nat → Prop) (h : DS w d s dk st FD FS) (root : Int) (hu : st.up = false) :
    Calls Tryd.prog 15 #[.pointer (some ⟨s, 0, none⟩), .int .i64 root] w fun e w' => e = .returned (.int .i64 5) ∧ DSPost w d s FD FS dk st w' := by
  have H := Lib.hid h
  obtain ⟨f, g, c0, c1, c2, c3, c4, c5, c6, hf⟩ := h.sto.cells
  rw [hu] at c6
  clear h hf
  go_enter Tryd.func15, Tryd.ntmps15
  go_wp2_with fail
  go_ret
  exact ⟨rfl, DSPost.same H.out⟩
set_option maxHeartbeats 1600000 in
set_option maxRecDepth 20000 in
theorem commit_may (w : World) (d s : Nat) (dk : DkS) (st : ShS) (FD FS : Nat → Prop) (h : DS w d s dk st FD FS) (root : Int) (hu : st.up = true) (hr : root < 9223372036854775808) (hm : mayB st root = false) :
    Calls Tryd.prog 15 #[.pointer (some ⟨s, 0, none⟩), .int .i64 root] w fun e w' => e = .returned (.int .i64 1) ∧ DSPost w d s FD FS dk st w' := by
  have H := Lib.hid h
  have MY := Lib.hid (may_is w s d st FS h.sto root hr false hm)
  obtain ⟨f, g, c0, c1, c2, c3, c4, c5, c6, hf⟩ := h.sto.cells
  rw [hu] at c6
  clear h hf
  go_enter Tryd.func15, Tryd.ntmps15
  go_wp2_with fail
  refine MY.out.mono ?_
  rintro e w1 ⟨rfl, b1⟩
  have P1 := Lib.hid (DSPost.below H.out b1)
  clear b1
  go_wp2_with fail
  go_ret
  exact ⟨rfl, P1.out⟩
set_option maxHeartbeats 1600000 in
set_option maxRecDepth 20000 in
theorem commit_last (w : World) (d s : Nat) (dk : DkS) (st : ShS) (FD FS : Nat → Prop) (h : DS w d s dk st FD FS) (root : Int) (hu : st.up = true) (hr : root < 9223372036854775808) (hm : mayB st root = true) (hg : st.h.gen = 281474976710655) :
    Calls Tryd.prog 15 #[.pointer (some ⟨s, 0, none⟩), .int .i64 root] w fun e w' => e = .returned (.int .i64 6) ∧ DSPost w d s FD FS dk st w' := by
  have H := Lib.hid h
  have MY := Lib.hid (may_is w s d st FS h.sto root hr true hm)
  have CE := Lib.hid (fun w' (hb : Below w.heap.size w w') => (h.sto.below hb).cells)
  obtain ⟨f, g, c0, c1, c2, c3, c4, c5, c6, hf⟩ := h.sto.cells
  rw [hu] at c6
  clear h hf
  go_enter Tryd.func15, Tryd.ntmps15
  go_wp2_with fail
  refine MY.out.mono ?_
  rintro e w1 ⟨rfl, b1⟩
  have P1 := Lib.hid (DSPost.below H.out b1)
  obtain ⟨f1, g1, x0, x1, x2, x3, x4, x5, x6, xf⟩ := CE.out w1 b1
  rw [hg] at x1
  clear b1 xf c0 c1 c2 c3 c4 c5 c6
  go_wp2_with fail
  go_ret
  exact ⟨rfl, P1.out⟩
set_option maxHeartbeats 6400000 in
set_option maxRecDepth 20000 in
theorem commit_sync (w : World) (d s : Nat) (dk : DkS) (st : ShS) (FD FS : Nat → Prop) (h : DS w d s dk st FD FS) (root : Int) (hu : st.up = true) (hr : root < 9223372036854775808) (hm : mayB st root = true) (hg : ¬ st.h.gen = 281474976710655) (hs : dk.sync.2 ≠ 0) :
    Calls Tryd.prog 15 #[.pointer (some ⟨s, 0, none⟩), .int .i64 root] w fun e w' => e = .returned (.int .i64 dk.sync.2) ∧ DSPost w d s FD FS dk.sync.1 (st.told dk.sync.2) w' := by
  have MY := Lib.hid (may_is w s d st FS h.sto root hr true hm)
  have CE := Lib.hid (fun w' (hb : Below w.heap.size w w') => (h.sto.below hb).cells)
  have HB := Lib.hid (fun w' (hb : Below w.heap.size w w') => h.below hb)
  have hrng := may_rng h.sto hm
  have hok0 := h.sto.okh
  have hgl : st.h.gen ≤ 281474976710654 := by have := hok0.g1; omega
  obtain ⟨f, g, c0, c1, c2, c3, c4, c5, c6, hf⟩ := h.sto.cells
  rw [hu] at c6
  have hgb : (st.h.gen == 281474976710655) = false := by simpa using hg
  have H := Lib.hid h
  obtain ⟨q, hq⟩ : ∃ q, dk.sync.2 = q := ⟨_, rfl⟩
  have SYN := Lib.hid (fun w' FD' (h' : Dk w' d dk FD') => sync_any w' d dk FD' h')
  rw [hq] at SYN hs ⊢
  have hq1 : (q == 0) = false := by simpa using hs
  have hq2 : (q != 0) = true := by simpa using hs
  clear h hf hg hm hr hrng hok0 hgl hq hs
  go_enter Tryd.func15, Tryd.ntmps15
  go_wp2_with fail
  refine MY.out.mono ?_
  rintro e w1 ⟨rfl, b1⟩
  have D1 := Lib.hid (HB.out w1 b1)
  have B1S := Lib.hid b1.size
  have B1F := Lib.hid (Frm.of_below (F := fun k => FD k ∨ FS k) b1)
  obtain ⟨f1, g1, x0, x1, x2, x3, x4, x5, x6, xf⟩ := CE.out w1 b1
  clear b1 xf c0 c1 c2 c3 c4 c5 c6 CE HB MY H
  go_wp2_with fail
  refine (SYN.out w1 FD D1.out.dk).mono ?_
  rintro e w2 ⟨rfl, hp⟩
  have PP := DSPost.disk D1.out hp
  obtain ⟨FD2, D2', f2, n2⟩ := PP
  have P2 : Hid (DSPost w d s FD FS dk.sync.1 st w2) := Lib.hid (by
    exact DSPost.trans (dk1 := dk) (st1 := st) B1S.out B1F.out (fun k hk => .inl hk) ⟨FD2, D2', f2, n2⟩)
  have D2 := Lib.hid D2'
  clear hp D2' f2 n2 x0 x1 x2 x3 x4 x5 x6 D1 B1S B1F
  go_wp2_with fail
  refine (told_is w2 s d st FS D2.out.sto q).mono ?_
  rintro e w3 ⟨rfl, hs3, hf3⟩
  have P3 : Hid (DSPost w d s FD FS dk.sync.1 (st.told q) w3) := Lib.hid (P2.out.next (fun FD' h' => DSPost.store h' hf3 hs3))
  clear hs3 hf3 P2 D2
  go_wp2_with fail
  go_ret
  exact ⟨rfl, P3.out⟩
set_option maxHeartbeats 6400000 in
set_option maxRecDepth 20000 in
theorem commit_on (w : World) (d s : Nat) (dk : DkS) (st : ShS) (FD FS : Nat → Prop) (h : DS w d s dk st FD FS) (root : Int) (hu : st.up = true) (hr : root < 9223372036854775808) (hm : mayB st root = true) (hg : ¬ st.h.gen = 281474976710655) (hs : dk.sync.2 = 0) :
    Calls Tryd.prog 15 #[.pointer (some ⟨s, 0, none⟩), .int .i64 root] w fun e w' => e = .returned (.int .i64 (wrHead dk.sync.1 (nextH st root)).2) ∧ DSPost w d s FD FS (wrHead dk.sync.1 (nextH st root)).1 (if (wrHead dk.sync.1 (nextH st root)).2 = 0 then ⟨nextH st root, [], [], st.up⟩ else st.told (wrHead dk.sync.1 (nextH st root)).2) w' := by
  have MY := Lib.hid (may_is w s d st FS h.sto root hr true hm)
  have CE := Lib.hid (fun w' (hb : Below w.heap.size w w') => (h.sto.below hb).cells)
  have HB := Lib.hid (fun w' (hb : Below w.heap.size w w') => h.below hb)
  have hrng := may_rng h.sto hm
  have hok0 := h.sto.okh
  have hgl : st.h.gen ≤ 281474976710654 := by have := hok0.g1; omega
  obtain ⟨f, g, c0, c1, c2, c3, c4, c5, c6, hf⟩ := h.sto.cells
  rw [hu] at c6
  have hgb : (st.h.gen == 281474976710655) = false := by simpa using hg
  have H := Lib.hid h
  have hokN := nextH_ok hok0 hrng hgl
  have SYN := Lib.hid (fun w' FD' (h' : Dk w' d dk FD') => sync_any w' d dk FD' h')
  rw [hs] at SYN
  obtain ⟨dk1, hdk1⟩ : ∃ dk1, dk.sync.1 = dk1 := ⟨_, rfl⟩
  rw [hdk1] at SYN ⊢
  have NXT := Lib.hid (fun w' (h' : Sto w' s d st FS) => next_is w' s d st FS h' root hgl)
  obtain ⟨HN, hHN⟩ : ∃ H, nextH st root = H := ⟨_, rfl⟩
  rw [hHN] at NXT hokN ⊢
  have WRH := Lib.hid (fun w' FD' (h' : Dk w' d dk1 FD') => writeHead_is w' d dk1 FD' h' HN hokN.g0 (by have := hokN.g1; omega) hokN.r0 (by have := hokN.r1; omega) (by have := hokN.u; omega))
  obtain ⟨⟨dk2, q⟩, hq⟩ : ∃ r, wrHead dk1 HN = r := ⟨_, rfl⟩
  rw [hq] at WRH ⊢
  dsimp only at WRH ⊢
  have HOK := Lib.hid hokN
  obtain ⟨stR, hstR⟩ : ∃ stR, (if q = 0 then (⟨HN, [], [], st.up⟩ : ShS) else st.told q) = stR := ⟨_, rfl⟩
  rw [hstR]
  have HSR := Lib.hid hstR
  unfold hdV at NXT WRH
  clear h hf hg hm hr hrng hok0 hgl hs hHN hq hstR hokN
  go_enter Tryd.func15, Tryd.ntmps15
  go_wp2_with fail
  refine MY.out.mono ?_
  rintro e w1 ⟨rfl, b1⟩
  have D1 := Lib.hid (HB.out w1 b1)
  have B1S := Lib.hid b1.size
  have B1F := Lib.hid (Frm.of_below (F := fun k => FD k ∨ FS k) b1)
  obtain ⟨f1, g1, x0, x1, x2, x3, x4, x5, x6, xf⟩ := CE.out w1 b1
  clear b1 xf c0 c1 c2 c3 c4 c5 c6 CE HB MY H
  go_wp2_with fail
  refine (SYN.out w1 FD D1.out.dk).mono ?_
  rintro e w2 ⟨rfl, hp⟩
  have PP := DSPost.disk D1.out hp
  obtain ⟨FD2, D2', f2, n2⟩ := PP
  have P2 : Hid (DSPost w d s FD FS dk1 st w2) := Lib.hid (by
    exact DSPost.trans (dk1 := dk) (st1 := st) B1S.out B1F.out (fun k hk => .inl hk) ⟨FD2, D2', f2, n2⟩)
  have D2 := Lib.hid D2'
  clear hp D2' f2 n2 x0 x1 x2 x3 x4 x5 x6 D1 B1S B1F
  go_wp2_with fail
  refine (told_is w2 s d st FS D2.out.sto 0).mono ?_
  rintro e w3 ⟨rfl, hs3, hf3⟩
  rw [told_0] at hs3
  have P3 : Hid (DSPost w d s FD FS dk1 st w3) := Lib.hid (P2.out.next (fun FD' h' => DSPost.store h' hf3 hs3))
  clear hs3 hf3 P2 D2
  go_wp2_with fail
  obtain ⟨FD3, hD3, hF3, hN3⟩ := P3.out
  refine (NXT.out w3 hD3.sto).mono ?_
  rintro e w4 ⟨rfl, b4⟩
  have P4 : Hid (DSPost w d s FD FS dk1 st w4) := Lib.hid (P3.out.next (fun FD' h' => DSPost.below h' b4))
  clear hD3 hF3 hN3 b4 P3 NXT
  go_upto_region 11 with fail
  obtain ⟨w5, hw5⟩ : ∃ w5, w4.alloc (.cells #[.int .i64 HN.gen, .int .i64 HN.root, .string HN.used] 54) = w5 := ⟨_, rfl⟩
  rw [hw5]
  have b5 : Below w4.heap.size w4 w5 := by rw [← hw5]; exact below_made _ _
  have Y5 := Lib.hid (show w5.heap[w4.heap.size]? = some (.cells #[.int .i64 HN.gen, .int .i64 HN.root, .string HN.used] 54) from by rw [← hw5]; exact heap_alloc_new _ _)
  have P5 : Hid (DSPost w d s FD FS dk1 st w5) := Lib.hid (P4.out.next (fun FD' h' => DSPost.below h' b5))
  obtain ⟨FD5, hD5, hF5, hN5⟩ := P4.out
  have hny : ¬ (FD5 w4.heap.size ∨ FS w4.heap.size) := fun hx => by
    rcases hx with hx | hx
    · exact Nat.lt_irrefl _ (hD5.dk.lt _ hx)
    · exact Nat.lt_irrefl _ (hD5.sto.lt _ hx)
  have D5 := Lib.hid (hD5.below b5)
  have P5' : Hid (∀ dk' st' w', DSPost w5 d s FD5 FS dk' st' w' → DSPost w d s FD FS dk' st' w') := Lib.hid (fun dk' st' w' hp => DSPost.trans (dk1 := dk1) (st1 := st) (Nat.le_trans hF5.size b5.size) (hF5.trans (Frm.of_below (F := fun k => FD k ∨ FS k) b5) (fun i hi => .inl hi)) hN5 hp)
  clear hD5 hF5 hN5 b5 hw5 P4 P5
  have hly : w4.heap.size < w5.heap.size := (Array.getElem?_eq_some_iff.1 Y5.out).1
  have c50 := D5.out.sto.disk
  refine wp_region_held_drew (S := fun w' => Frm (fun k => FD5 k ∨ FS k) w5 w' ∧ w'.cell? ⟨s, 0, none⟩ = some (.pointer (some ⟨d, 0, none⟩))) (by kernel_rfl) ⟨(Frm.refl (fun k => FD5 k ∨ FS k) w5).drew, c50⟩ (fun hS => ?_)
  refine held_take (i := 0) 39 (v := ?vc0x1) rfl rfl (by kernel_rfl) (by kernel_rfl) (by kernel_rfl) (fun _ _ _ h => h) hS (by rfl) ?hc0x1 ?rc0x1
  case hc0x1 =>
    intro w9 s9
    clear s9
    go_simp
    try (with_reducible rfl)
  simp only [List.setIfInBounds_toArray, List.set_cons_zero, List.set_cons_succ]
  refine held_take (i := 1) 40 (v := ?vc1x2) rfl rfl (by kernel_rfl) (by kernel_rfl) (by kernel_rfl) (fun _ _ _ h => h) hS (by rfl) ?hc1x2 ?rc1x2
  case hc1x2 =>
    intro w9 s9
    clear s9
    go_simp
    try (with_reducible rfl)
  simp only [List.setIfInBounds_toArray, List.set_cons_zero, List.set_cons_succ]
  refine held_take (i := 2) 41 (v := ?vc2x3) rfl rfl (by kernel_rfl) (by kernel_rfl) (by kernel_rfl) (fun _ _ _ h => h) hS (by rfl) ?hc2x3 ?rc2x3
  case hc2x3 =>
    intro w9 s9
    clear s9
    go_simp
    try (with_reducible rfl)
  simp only [List.setIfInBounds_toArray, List.set_cons_zero, List.set_cons_succ]
  refine held_take (i := 3) 42 (v := ?vc3x4) rfl rfl (by kernel_rfl) (by kernel_rfl) (by kernel_rfl) (fun _ _ _ h => h) hS (by rfl) ?hc3x4 ?rc3x4
  case hc3x4 =>
    intro w9 s9
    clear s9
    go_simp
    try (with_reducible rfl)
  simp only [List.setIfInBounds_toArray, List.set_cons_zero, List.set_cons_succ]
  refine held_take (i := 4) 43 (v := ?vc4x5) rfl rfl (by kernel_rfl) (by kernel_rfl) (by kernel_rfl) (fun _ _ _ h => h) hS (by rfl) ?hc4x5 ?rc4x5
  case hc4x5 =>
    intro w9 s9
    have c := s9.2
    clear s9
    go_simp
    try (with_reducible rfl)
  simp only [List.setIfInBounds_toArray, List.set_cons_zero, List.set_cons_succ]
  refine held_take (i := 5) 44 (v := ?vc5x6) rfl rfl (by kernel_rfl) (by kernel_rfl) (by kernel_rfl) (fun _ _ _ h => h) hS (by rfl) ?hc5x6 ?rc5x6
  case hc5x6 =>
    intro w9 s9
    have X9 := (s9.1.block w4.heap.size hly hny).trans Y5.out
    have c0 : w9.cell? ⟨w4.heap.size, 0, none⟩ = some (.int .i64 HN.gen) := by rw [Go.Joins.cell_of_block X9]; rfl
    have c1 : w9.cell? ⟨w4.heap.size, 1, none⟩ = some (.int .i64 HN.root) := by rw [Go.Joins.cell_of_block X9]; rfl
    have c2 : w9.cell? ⟨w4.heap.size, 2, none⟩ = some (.string HN.used) := by rw [Go.Joins.cell_of_block X9]; rfl
    clear s9
    go_simp
    try (with_reducible rfl)
  simp only [List.setIfInBounds_toArray, List.set_cons_zero, List.set_cons_succ]
  refine held_step (i := 6) rfl (by kernel_rfl) (fun K hK => ?_)
  have HK := Lib.hid hK
  clear hK
  go_simp
  go_wp2_with fail
  refine (WRH.out _ FD5 (D5.out.dk.below (Below.refl w5.heap.size w5).drew)).mono ?_
  rintro e v6 ⟨rfl, hp⟩
  obtain ⟨FD6, hD6, hF6d, hN6⟩ : DSPost w5 d s FD5 FS dk2 st v6 := DSPost.trans (w1 := w5.drew) (dk1 := dk1) (st1 := st) (Nat.le_refl _) (Frm.of_below (Below.refl w5.heap.size w5).drew) (fun k hk => .inl hk) (DSPost.disk (D5.out.below (Below.refl w5.heap.size w5).drew) hp)
  have hF6 : Frm (fun k => FD5 k ∨ FS k) w5.drew v6 := ⟨hF6d.os, hF6d.tape, hF6d.output, hF6d.size, hF6d.block⟩
  clear hp
  refine HK.out _ _ ?_ ?_
  · exact ⟨hS.1.trans hF6 (fun i hi => .inl hi), hD6.sto.disk⟩
  clear HK K
  try simp only [Act.put, List.setIfInBounds_toArray, List.set_cons_zero, List.set_cons_succ]
  have hS9 := And.intro (hS.1.trans hF6 (fun i hi => .inl hi)) hD6.sto.disk
  clear hS
  have hS := hS9
  clear hS9
  have D6 := Lib.hid hD6
  have P6 : Hid (DSPost w5 d s FD5 FS dk2 st v6) := Lib.hid ⟨FD6, hD6, hF6d, hN6⟩
  clear hD6 hF6 hF6d hN6
  refine held_step (i := 7) rfl (by kernel_rfl) (fun K hK => ?_)
  have HK := Lib.hid hK
  clear hK
  go_simp
  go_wp2_with fail
  refine (told_is _ s d st FS D6.out.sto q).mono ?_
  rintro e v7 ⟨rfl, hs7, hf7⟩
  refine HK.out _ _ ?_ ?_
  · exact ⟨hS.1.trans hf7 (fun i hi => .inl (.inr hi)), hs7.disk⟩
  clear HK K
  try simp only [Act.put, List.setIfInBounds_toArray, List.set_cons_zero, List.set_cons_succ]
  have P7 : Hid (DSPost w5 d s FD5 FS dk2 (st.told q) v7) := Lib.hid (P6.out.next (fun FD' h' => DSPost.store h' hf7 hs7))
  have hS9 := And.intro (hS.1.trans hf7 (fun i hi => .inl (.inr hi))) hs7.disk
  clear hS hs7 hf7 P6 D6
  have hS := hS9
  clear hS9
  refine held_take (i := 8) 7 (v := ?vc8x7) rfl rfl (by kernel_rfl) (by kernel_rfl) (by kernel_rfl) (fun _ _ _ h => h) hS (by rfl) ?hc8x7 ?rc8x7
  case hc8x7 =>
    intro w9 s9
    clear s9
    go_simp
    try (with_reducible rfl)
  simp only [List.setIfInBounds_toArray, List.set_cons_zero, List.set_cons_succ]
  refine wpAnyH_done (by kernel_rfl) ?_ _
  have Y7 := (hS.1.block w4.heap.size hly hny).trans Y5.out
  clear hS
  have hsr := HSR.out
  by_cases h0 : q = 0
  · subst h0
    rw [if_pos rfl] at hsr
    subst hsr
    have PT7 := P7.out
    rw [told_0] at PT7
    obtain ⟨FD7, hD7, hF7, hN7⟩ := PT7
    obtain ⟨f7, g7, x0, x1, x2, x3, x4, x5, x6, xf⟩ := hD7.sto.cells
    have y1 := xf 1
    have y2 := xf 2
    have y3 := xf 3
    have c0 : v7.cell? ⟨w4.heap.size, 0, none⟩ = some (.int .i64 HN.gen) := by rw [Go.Joins.cell_of_block Y7]; rfl
    have c1 : v7.cell? ⟨w4.heap.size, 1, none⟩ = some (.int .i64 HN.root) := by rw [Go.Joins.cell_of_block Y7]; rfl
    have c2 : v7.cell? ⟨w4.heap.size, 2, none⟩ = some (.string HN.used) := by rw [Go.Joins.cell_of_block Y7]; rfl
    obtain ⟨hsh, hfh⟩ := hD7.sto.setHead HN HOK.out
    have RB := Lib.hid (rollback_is _ s d _ FS hsh)
    have FIN : Hid (∀ w9, (Sto w9 s d ({ st with h := HN } : ShS).back FS ∧ Frm FS (((v7.setCell ⟨s, 1, none⟩ (.int .i64 HN.gen)).setCell ⟨s, 2, none⟩ (.int .i64 HN.root)).setCell ⟨s, 3, none⟩ (.string HN.used)) w9) → DSPost w d s FD FS dk2 ⟨HN, [], [], st.up⟩ w9) := Lib.hid (fun w9 hx => P5'.out _ _ _ (DSPost.trans (dk1 := dk2) (st1 := st) hF7.size hF7 hN7 (DSPost.store hD7 (hfh.trans hx.2 (fun i hi => .inl hi)) hx.1)))
    clear hD7 hF7 hN7 hsh hfh xf P7 Y7
    go_wp2_with fail
    refine RB.out.mono ?_
    rintro e w9 ⟨rfl, hx⟩
    have P9 := Lib.hid (FIN.out w9 hx)
    clear hx FIN
    go_wp2_with fail
    go_ret
    exact ⟨rfl, P9.out⟩
  · rw [if_neg h0] at hsr
    subst hsr
    have h1 : (q == 0) = false := by simpa using h0
    have h2 : (q != 0) = true := by simpa using h0
    have P9 := Lib.hid (P5'.out _ _ _ P7.out)
    clear P7 Y7 HSR
    go_wp2_with fail
    go_ret
    exact ⟨rfl, P9.out⟩
/-- Commit, whatever it is asked. -/
theorem commit_is (w : World) (d s : Nat) (dk : DkS) (st : ShS) (FD FS : Nat → Prop) (h : DS w d s dk st FD FS) (root : Int) (hr : root < 9223372036854775808) :
    Calls Tryd.prog 15 #[.pointer (some ⟨s, 0, none⟩), .int .i64 root] w fun e w' => e = .returned (.int .i64 (st.commit dk root).2.2) ∧ DSPost w d s FD FS (st.commit dk root).1 (st.commit dk root).2.1 w' := by
  unfold ShS.commit
  cases hu : st.up
  · rw [if_pos rfl]; exact commit_down w d s dk st FD FS h root hu
  · rw [if_neg (by decide)]
    cases hm : mayB st root
    · rw [if_pos rfl]; exact commit_may w d s dk st FD FS h root hu hr hm
    · rw [if_neg (by decide)]
      by_cases hg : st.h.gen = 281474976710655
      · rw [if_pos hg]; exact commit_last w d s dk st FD FS h root hu hr hm hg
      · rw [if_neg hg]
        by_cases hs : dk.sync.2 = 0
        · rw [if_neg (by simpa using hs)]
          have := commit_on w d s dk st FD FS h root hu hr hm hg hs
          by_cases hq : (wrHead dk.sync.1 (nextH st root)).2 = 0
          · rw [if_neg (by simpa using hq)]
            rw [if_pos hq, hq, hu] at this
            exact this
          · rw [if_pos hq]
            rw [if_neg hq] at this
            exact this
        · rw [if_pos hs]; exact commit_sync w d s dk st FD FS h root hu hr hm hg hs
end Go.Proofs.YtbjmbndeaobbeaaDoor
namespace Go.Proofs.YtbjmbndeaobbeaaDoor
open Go.RowKit
set_option linter.unusedVariables false
set_option linter.unusedSimpArgs false
def fmtH : HdS := ⟨1, 0, Str (List.replicate 80 0)⟩
theorem fmtH_ok : HdOk fmtH := ⟨by decide, by decide, by decide, by decide, by show (Str (List.replicate 80 0)).size = 80; decide⟩
/-- A store of the call's own stands on a disk. -/
def Born (w : World) (d : Nat) (dk : DkS) (st : ShS) (F : Nat → Prop) (w' : World) (v : Value) : Prop := ∃ s FS FD', v = .pointer (some ⟨s, 0, none⟩) ∧ DS w' d s dk st FD' FS ∧ Frm F w w' ∧ (∀ k, FD' k → F k ∨ w.heap.size ≤ k) ∧ ∀ k, FS k → w.heap.size ≤ k
theorem Born.of {w w1 w2 : World} {d : Nat} {dk : DkS} {st : ShS} {F : Nat → Prop} {v : Value} (h : DkPost w d dk F w1) (b : Below w1.heap.size w1 w2) (ho : Opened w2 d st w1 v) : Born w d dk st F w2 v := by
  obtain ⟨FD', h1, h2, h3⟩ := h
  obtain ⟨s, FS, rfl, hs, hn⟩ := ho
  refine ⟨s, FS, FD', rfl, ⟨h1.below b, hs, fun k hk hx => ?_⟩, h2.trans (Frm.of_below (F := F) b) (fun i hi => .inl hi), h3, fun k hk => Nat.le_trans h2.size (hn k hk)⟩
  have := h1.lt k hk
  have := hn k hx
  omega
def FmtPost (w : World) (d : Nat) (F : Nat → Prop) (r : DkS × Int) (e : Ending) (w' : World) : Prop :=
  (r.2 = 0 → ∃ v, e = .returned (.tuple #[v, .int .i64 0]) ∧ Born w d r.1 (ShS.new fmtH) F w' v) ∧ (r.2 ≠ 0 → e = .returned (.tuple #[.pointer none, .int .i64 r.2]) ∧ DkPost w d r.1 F w')
set_option maxHeartbeats 3200000 in
set_option maxRecDepth 20000 in
theorem format_is (w : World) (d : Nat) (dk : DkS) (F : Nat → Prop) (hd : Dk w d dk F) :
    Calls Tryd.prog 25 #[.pointer (some ⟨d, 0, none⟩)] w fun e w' => FmtPost w d F (wrHead dk fmtH) e w' := by
  have BN := Lib.hid (fun w => new_any 640 w (by decide) (by decide))
  have hn : newN 640 = 80 := by decide
  rw [hn] at BN
  obtain ⟨T, hT⟩ : ∃ T, Str (List.replicate 80 0) = T := ⟨_, rfl⟩
  rw [hT] at BN
  have WRH := Lib.hid (fun w' FD' (h' : Dk w' d dk FD') => writeHead_is w' d dk FD' h' fmtH fmtH_ok.g0 (by have := fmtH_ok.g1; omega) fmtH_ok.r0 (by have := fmtH_ok.r1; omega) (by have := fmtH_ok.u; omega))
  have OPN := Lib.hid (fun w' => open_is w' d fmtH fmtH_ok)
  have hH : fmtH = ⟨1, 0, T⟩ := by rw [← hT]; rfl
  obtain ⟨⟨dk2, q⟩, hq⟩ : ∃ r, wrHead dk fmtH = r := ⟨_, rfl⟩
  rw [hq] at WRH ⊢
  unfold hdV at WRH OPN
  have hg : fmtH.gen = 1 := rfl
  have hr : fmtH.root = 0 := rfl
  have hu : fmtH.used = T := hT
  rw [hg, hr, hu] at WRH OPN
  have HD := Lib.hid hd
  clear hd hn hT hH hq hg hr hu
  go_enter Tryd.func25, Tryd.ntmps25
  go_wp2_with fail
  refine (BN.out _).mono ?_
  rintro e w1 ⟨rfl, b1⟩
  have B1 := Lib.hid b1
  clear b1
  go_upto_region 2 with fail
  obtain ⟨w2, hw2⟩ : ∃ w2, w1.alloc (.cells #[.int .i64 1, .int .i64 0, .string T] 54) = w2 := ⟨_, rfl⟩
  rw [hw2]
  have b2 : Below w1.heap.size w1 w2 := by rw [← hw2]; exact below_made _ _
  have X2 : w2.heap[w1.heap.size]? = some (.cells #[.int .i64 1, .int .i64 0, .string T] 54) := by rw [← hw2]; exact heap_alloc_new _ _
  have B2 := Lib.hid (chain B1.out b2)
  have HD2 := Lib.hid (HD.out.below B2.out)
  have HL : ¬ F w1.heap.size := fun hx => by
    have := HD.out.lt _ hx
    have := B1.out.size
    omega
  have LY := (Array.getElem?_eq_some_iff.1 X2).1
  have XH := Lib.hid X2
  have y0 : w2.cell? ⟨w1.heap.size, 0, none⟩ = some (.int .i64 1) := by rw [Go.Joins.cell_of_block X2]; rfl
  have y1 : w2.cell? ⟨w1.heap.size, 1, none⟩ = some (.int .i64 0) := by rw [Go.Joins.cell_of_block X2]; rfl
  have y2 : w2.cell? ⟨w1.heap.size, 2, none⟩ = some (.string T) := by rw [Go.Joins.cell_of_block X2]; rfl
  clear b2 hw2 X2 HD
  go_wp2_with fail
  refine (WRH.out _ F HD2.out).mono ?_
  rintro e w3 ⟨rfl, hp⟩
  obtain ⟨FD3, h3, f3, n3⟩ := hp
  have P3 : Hid (DkPost w d dk2 F w3) := Lib.hid ⟨FD3, h3, (Frm.of_below (F := F) B2.out).trans f3 (fun i hi => .inl hi), fun k hk => (n3 k hk).imp id (fun h => Nat.le_trans B2.out.size h)⟩
  have X3 := (f3.block _ LY HL).trans XH.out
  have z0 : w3.cell? ⟨w1.heap.size, 0, none⟩ = some (.int .i64 1) := by rw [Go.Joins.cell_of_block X3]; rfl
  have z1 : w3.cell? ⟨w1.heap.size, 1, none⟩ = some (.int .i64 0) := by rw [Go.Joins.cell_of_block X3]; rfl
  have z2 : w3.cell? ⟨w1.heap.size, 2, none⟩ = some (.string T) := by rw [Go.Joins.cell_of_block X3]; rfl
  clear h3 f3 n3 X3 y0 y1 y2 XH HL LY
  by_cases h0 : q = 0
  · subst h0
    go_wp2_with fail
    refine (OPN.out _).mono ?_
    rintro e w4 ⟨v, rfl, ho, b4⟩
    have BB := Lib.hid (Born.of P3.out b4 ho)
    clear ho b4
    go_wp2_with fail
    go_ret2
    exact ⟨fun _ => ⟨_, rfl, BB.out⟩, fun h => absurd rfl h⟩
  · have h1 : (q == 0) = false := by simpa using h0
    have h2 : (q != 0) = true := by simpa using h0
    go_wp2_with fail
    go_ret2
    exact ⟨fun h => absurd h h0, fun _ => ⟨rfl, P3.out⟩⟩
theorem rdHead_ok {st : DkS} {n : Int} {h : HdS} (hh : rdHead st n = (h, true)) : HdOk h := by
  unfold rdHead at hh
  by_cases hc : rdE st n = 0 ∧ rdK st n = 1 ∧ (rdT st n).size = 88
  · rw [if_pos hc] at hh
    have e : parseH (rdT st n) = h := congrArg Prod.fst hh
    subst e
    have h88 := hc.2.2
    have t6 := take_rng (rdT st n) 6 (by decide) (by decide)
    have t2 := take_rng (takeR (rdT st n) 6) 2 (by decide) (by decide)
    exact ⟨t6.1, t6.2, t2.1, t2.2, (by
      have p1 := (pt_back (rdT st n) (k := 6) (by decide) (by decide) (by omega)).2
      have p2 := (pt_back (takeR (rdT st n) 6) (k := 2) (by decide) (by decide) (by omega)).2
      show (takeR (takeR (rdT st n) 6) 2).size = 80
      omega)⟩
  · rw [if_neg hc] at hh
    cases hh
theorem lastH_ok {st : DkS} {h : HdS} (hh : lastH st = (h, true)) : HdOk h := by
  have key : ∀ j, (foldH st j).2 = true → HdOk (foldH st j).1 := by
    intro j
    induction j with
    | zero => intro hx; cases hx
    | succ j ih =>
      intro hx
      have hs : foldH st (j + 1) = stepH (foldH st j) (rdHead st (j : Int)) := rfl
      rw [hs] at hx ⊢
      unfold stepH at hx ⊢
      by_cases hc : (rdHead st (j : Int)).2 = true ∧ (foldH st j).1.gen < (rdHead st (j : Int)).1.gen
      · rw [if_pos hc]
        exact rdHead_ok (h := (rdHead st (j : Int)).1) (n := (j : Int)) (st := st) (Prod.ext rfl hc.1)
      · rw [if_neg hc] at hx ⊢; exact ih hx
  have := key 2
  unfold lastH at hh
  rw [hh] at this
  exact this rfl
def mountE (dk : DkS) : Int := if dk.up = true then (if (lastH dk).2 = true then 0 else 3) else 5
def MntPost (w : World) (d : Nat) (dk : DkS) (F : Nat → Prop) (e : Ending) (w' : World) : Prop :=
  (mountE dk = 0 → ∃ v, e = .returned (.tuple #[v, .int .i64 0]) ∧ Born w d dk (ShS.new (lastH dk).1) F w' v) ∧ (mountE dk ≠ 0 → e = .returned (.tuple #[.pointer none, .int .i64 (mountE dk)]) ∧ Below w.heap.size w w')
set_option maxHeartbeats 3200000 in
set_option maxRecDepth 20000 in
theorem mount_is (w : World) (d : Nat) (dk : DkS) (F : Nat → Prop) (hd : Dk w d dk F) :
    Calls Tryd.prog 17 #[.pointer (some ⟨d, 0, none⟩)] w fun e w' => MntPost w d dk F e w' := by
  have UP := Lib.hid (up_is w d dk F hd)
  have LH := Lib.hid (lastHead_is w d dk F hd)
  have OPN : Hid ((lastH dk).2 = true → ∀ w', Calls Tryd.prog 38 #[.pointer (some ⟨d, 0, none⟩), hdV (lastH dk).1] w' fun e w2 => ∃ v, e = .returned v ∧ Opened w2 d (ShS.new (lastH dk).1) w' v ∧ Below w'.heap.size w' w2) := Lib.hid (fun h w' => open_is w' d (lastH dk).1 (lastH_ok (h := (lastH dk).1) (Prod.ext rfl h)))
  have ME : Hid (mountE dk = if dk.up = true then (if (lastH dk).2 = true then 0 else 3) else 5) := Lib.hid rfl
  unfold MntPost
  have PS : Hid (∀ w1, Below w.heap.size w w1 → DkPost w d dk F w1) := Lib.hid (fun w1 b => ⟨F, hd.below b, Frm.of_below b, fun k hk => .inl hk⟩)
  obtain ⟨me, hme⟩ : ∃ me, mountE dk = me := ⟨_, rfl⟩
  rw [hme] at ME ⊢
  obtain ⟨⟨H, ok⟩, hH⟩ : ∃ r, lastH dk = r := ⟨_, rfl⟩
  rw [hH] at LH OPN ME ⊢
  dsimp only at LH OPN ME ⊢
  obtain ⟨up, hup⟩ : ∃ u, dk.up = u := ⟨_, rfl⟩
  rw [hup] at UP ME
  unfold hdV at LH OPN
  clear hme hH hup hd
  go_enter Tryd.func17, Tryd.ntmps17
  go_wp2_with fail
  refine UP.out.mono ?_
  rintro e w0 ⟨rfl, rfl⟩
  cases up
  · have hme : me = 5 := ME.out
    subst hme
    go_wp2_with fail
    go_ret2
    exact ⟨fun h => absurd h (by decide), fun _ => ⟨rfl, Below.refl _ _⟩⟩
  · go_wp2_with fail
    refine LH.out.mono ?_
    rintro e w1 ⟨rfl, b1⟩
    have B1 := Lib.hid b1
    clear b1
    dsimp only
    go_upto_region 4 with fail
    obtain ⟨w2, hw2⟩ : ∃ w2, w1.alloc (.cells #[.int .i64 H.gen, .int .i64 H.root, .string H.used] 54) = w2 := ⟨_, rfl⟩
    rw [hw2]
    have b2 : Below w1.heap.size w1 w2 := by rw [← hw2]; exact below_made _ _
    have X2 : w2.heap[w1.heap.size]? = some (.cells #[.int .i64 H.gen, .int .i64 H.root, .string H.used] 54) := by rw [← hw2]; exact heap_alloc_new _ _
    have B2 := Lib.hid (chain B1.out b2)
    have y0 : w2.cell? ⟨w1.heap.size, 0, none⟩ = some (.int .i64 H.gen) := by rw [Go.Joins.cell_of_block X2]; rfl
    have y1 : w2.cell? ⟨w1.heap.size, 1, none⟩ = some (.int .i64 H.root) := by rw [Go.Joins.cell_of_block X2]; rfl
    have y2 : w2.cell? ⟨w1.heap.size, 2, none⟩ = some (.string H.used) := by rw [Go.Joins.cell_of_block X2]; rfl
    clear b2 hw2 X2
    cases ok
    · have hme : me = 3 := ME.out
      subst hme
      go_wp2_with fail
      go_ret2
      exact ⟨fun h => absurd h (by decide), fun _ => ⟨rfl, B2.out⟩⟩
    · have hme : me = 0 := ME.out
      subst hme
      have OP := Lib.hid (OPN.out rfl)
      go_wp2_with fail
      refine (OP.out _).mono ?_
      rintro e w4 ⟨v, rfl, ho, b4⟩
      have BB := Lib.hid (Born.of (PS.out _ B2.out) b4 ho)
      clear ho b4
      go_wp2_with fail
      go_ret2
      first | exact ⟨_, rfl, BB.out⟩ | exact ⟨fun _ => ⟨_, rfl, BB.out⟩, fun h => absurd rfl h⟩
end Go.Proofs.YtbjmbndeaobbeaaDoor
