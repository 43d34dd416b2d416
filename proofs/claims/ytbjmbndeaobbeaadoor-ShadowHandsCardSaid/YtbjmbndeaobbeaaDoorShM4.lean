/-
  Package shadow: Left, Used.
-/
import Derived.Test.YtbjmbndeaobbeaaDoorShM3
import Derived.Test.YtbjmbndeaobbeaaDoorBitsCount
namespace Go.Proofs.YtbjmbndeaobbeaaDoor
open Go.RowKit
set_option linter.unusedVariables false
set_option linter.unusedSimpArgs false
theorem few_of {l : List Int} (hn : l.Nodup) (hb : ∀ x ∈ l, 2 ≤ x ∧ x < 640) : l.length ≤ 640 := by
  have h1 : (l.map Int.toNat).Nodup := by
    refine List.pairwise_map.2 (hn.imp_of_mem fun {a b} ha hb' hne e => ?_)
    have h3 := hb a ha
    have h4 := hb b hb'
    exact hne (by omega)
  have h2 := nodup_le 640 (l.map Int.toNat) h1 (fun x hx => by
    obtain ⟨y, hy, rfl⟩ := List.mem_map.1 hx
    have := hb y hy
    omega)
  simpa using h2
theorem Sto.few {w : World} {s d : Nat} {st : ShS} {F : Nat → Prop} (h : Sto w s d st F) : st.fresh.length ≤ 640 := by
  obtain ⟨f, g, hi, he⟩ := h
  exact few_of hi.fr.nodup hi.fb
def leftN (st : ShS) (size : Nat) : Int := (size : Int) - 2 - (cntL st.h.used.data.toList : Int) - (st.fresh.length : Int)
set_option maxHeartbeats 3200000 in
set_option maxRecDepth 20000 in
theorem left_is (w : World) (s d : Nat) (dk : DkS) (st : ShS) (FD F : Nat → Prop) (hd : Dk w d dk FD) (h : Sto w s d st F) :
    Calls Tryd.prog 21 #[.pointer (some ⟨s, 0, none⟩)] w fun e w' => e = .returned (.int .i64 (leftN st dk.S.length)) ∧ Below w.heap.size w w' := by
  have hz := hd.ok.few
  have hfew := h.few
  have SZ := Lib.hid (fun w' (hb : Below w.heap.size w w') => stosize_is w' s d st F (h.below hb) dk FD (hd.below hb))
  obtain ⟨f0, g0, hi0, he0⟩ := h
  have hu80 := hi0.ok.u
  have CN := Lib.hid (fun w' => count_any st.h.used w' (by omega))
  have hc := cntL_le st.h.used.data.toList
  rw [size_list, hu80] at hc
  have LN : Hid (∀ w', Below w.heap.size w w' → (Builtin.len_ #[56] 3 #[.map (some f0)]).run Tryd.prog w' = .ok (.int .i64 (st.fresh.length : Int)) w') := Lib.hid (fun w' hb => lenS (P := Tryd.prog) Tryd.underlying56 (hi0.kept (fun k hk => hb.block k (hi0.lt k hk))).fr 3)
  have CE := Lib.hid (fun w' (hb : Below w.heap.size w w') => (hi0.kept (fun k hk => hb.block k (hi0.lt k hk))).cells)
  unfold leftN
  generalize cntL st.h.used.data.toList = cn at *
  generalize st.fresh.length = ln at *
  generalize dk.S.length = sz at *
  have hw1 : IntKind.i64.wrap ((sz : Int) - 2) = (sz : Int) - 2 := by rw [IntKind.wrap_i64]; omega
  have hw2 : IntKind.i64.wrap ((sz : Int) - 2 - (cn : Int)) = (sz : Int) - 2 - (cn : Int) := by rw [IntKind.wrap_i64]; omega
  have hw3 : IntKind.i64.wrap ((sz : Int) - 2 - (cn : Int) - (ln : Int)) = (sz : Int) - 2 - (cn : Int) - (ln : Int) := by rw [IntKind.wrap_i64]; omega
  clear hi0 he0 hd hz hfew hc hu80
  go_enter Tryd.func21, Tryd.ntmps21
  go_wp2_with fail
  refine wp_region_held_drew (S := fun w' => Below w.heap.size w w') (by kernel_rfl) (Below.refl w.heap.size w).drew (fun hS => ?_)
  refine held_take (i := 0) 3 (v := ?va0x1) rfl rfl (by kernel_rfl) (by kernel_rfl) (by kernel_rfl) (fun _ _ _ h => h) hS (by rfl) ?ha0x1 ?ra0x1
  case ha0x1 =>
    intro w9 s9
    clear s9
    go_simp
    try (with_reducible rfl)
  simp only [List.setIfInBounds_toArray, List.set_cons_zero, List.set_cons_succ]
  refine held_take (i := 3) 6 (v := ?va3x2) rfl rfl (by kernel_rfl) (by kernel_rfl) (by kernel_rfl) (fun _ _ _ h => h) hS (by rfl) ?ha3x2 ?ra3x2
  case ha3x2 =>
    intro w9 s9
    clear s9
    go_simp
    try (with_reducible rfl)
  simp only [List.setIfInBounds_toArray, List.set_cons_zero, List.set_cons_succ]
  refine held_take (i := 4) 7 (v := ?va4x3) rfl rfl (by kernel_rfl) (by kernel_rfl) (by kernel_rfl) (fun _ _ _ h => h) hS (by rfl) ?ha4x3 ?ra4x3
  case ha4x3 =>
    intro w9 s9
    clear s9
    go_simp
    try (with_reducible rfl)
  simp only [List.setIfInBounds_toArray, List.set_cons_zero, List.set_cons_succ]
  refine held_take (i := 5) 8 (v := ?va5x4) rfl rfl (by kernel_rfl) (by kernel_rfl) (by kernel_rfl) (fun _ _ _ h => h) hS (by rfl) ?ha5x4 ?ra5x4
  case ha5x4 =>
    intro w9 s9
    clear s9
    go_simp
    try (with_reducible rfl)
  simp only [List.setIfInBounds_toArray, List.set_cons_zero, List.set_cons_succ]
  refine held_take (i := 6) 9 (v := ?va6x5) rfl rfl (by kernel_rfl) (by kernel_rfl) (by kernel_rfl) (fun _ _ _ h => h) hS (by rfl) ?ha6x5 ?ra6x5
  case ha6x5 =>
    intro w9 s9
    clear s9
    go_simp
    try (with_reducible rfl)
  simp only [List.setIfInBounds_toArray, List.set_cons_zero, List.set_cons_succ]
  refine held_take (i := 7) 10 (v := ?va7x6) rfl rfl (by kernel_rfl) (by kernel_rfl) (by kernel_rfl) (fun _ _ _ h => h) hS (by rfl) ?ha7x6 ?ra7x6
  case ha7x6 =>
    intro w9 s9
    obtain ⟨x0, x1, x2, x3, x4, x5, x6⟩ := CE.out w9 s9
    clear s9
    go_simp
    try (with_reducible rfl)
  simp only [List.setIfInBounds_toArray, List.set_cons_zero, List.set_cons_succ]
  refine held_take (i := 10) 13 (v := ?va10x7) rfl rfl (by kernel_rfl) (by kernel_rfl) (by kernel_rfl) (fun _ _ _ h => h) hS (by rfl) ?ha10x7 ?ra10x7
  case ha10x7 =>
    intro w9 s9
    clear s9
    go_simp
    try (with_reducible rfl)
  simp only [List.setIfInBounds_toArray, List.set_cons_zero, List.set_cons_succ]
  refine held_take (i := 11) 14 (v := ?va11x8) rfl rfl (by kernel_rfl) (by kernel_rfl) (by kernel_rfl) (fun _ _ _ h => h) hS (by rfl) ?ha11x8 ?ra11x8
  case ha11x8 =>
    intro w9 s9
    clear s9
    go_simp
    try (with_reducible rfl)
  simp only [List.setIfInBounds_toArray, List.set_cons_zero, List.set_cons_succ]
  refine held_take (i := 12) 15 (v := ?va12x9) rfl rfl (by kernel_rfl) (by kernel_rfl) (by kernel_rfl) (fun _ _ _ h => h) hS (by rfl) ?ha12x9 ?ra12x9
  case ha12x9 =>
    intro w9 s9
    clear s9
    go_simp
    try (with_reducible rfl)
  simp only [List.setIfInBounds_toArray, List.set_cons_zero, List.set_cons_succ]
  refine held_take (i := 13) 16 (v := ?va13x10) rfl rfl (by kernel_rfl) (by kernel_rfl) (by kernel_rfl) (fun _ _ _ h => h) hS (by rfl) ?ha13x10 ?ra13x10
  case ha13x10 =>
    intro w9 s9
    obtain ⟨x0, x1, x2, x3, x4, x5, x6⟩ := CE.out w9 s9
    clear s9
    go_simp
    try (with_reducible rfl)
  simp only [List.setIfInBounds_toArray, List.set_cons_zero, List.set_cons_succ]
  refine held_step (i := 1) rfl (by kernel_rfl) (fun K hK => ?_)
  have HK := Lib.hid hK
  clear hK
  go_simp
  go_wp2_with fail
  refine (SZ.out _ hS).mono ?_
  rintro e v1 ⟨rfl, rfl⟩
  refine HK.out _ _ ?_ ?_
  · exact hS
  clear HK K
  try simp only [Act.put, List.setIfInBounds_toArray, List.set_cons_zero, List.set_cons_succ]
  refine held_take (i := 2) 5 (v := ?va2x11) rfl rfl (by kernel_rfl) (by kernel_rfl) (by kernel_rfl) (fun _ _ _ h => h) hS (by rfl) ?ha2x11 ?ra2x11
  case ha2x11 =>
    intro w9 s9
    clear s9
    go_simp
    try (with_reducible rfl)
  simp only [List.setIfInBounds_toArray, List.set_cons_zero, List.set_cons_succ]
  refine held_step (i := 8) rfl (by kernel_rfl) (fun K hK => ?_)
  have HK := Lib.hid hK
  clear hK
  go_simp
  go_wp2_with fail
  refine (CN.out _).mono ?_
  rintro e v2 ⟨rfl, rfl⟩
  refine HK.out _ _ ?_ ?_
  · exact hS
  clear HK K
  try simp only [Act.put, List.setIfInBounds_toArray, List.set_cons_zero, List.set_cons_succ]
  refine held_take (i := 9) 12 (v := ?va9x12) rfl rfl (by kernel_rfl) (by kernel_rfl) (by kernel_rfl) (fun _ _ _ h => h) hS (by rfl) ?ha9x12 ?ra9x12
  case ha9x12 =>
    intro w9 s9
    clear s9
    go_simp
    try (with_reducible rfl)
  simp only [List.setIfInBounds_toArray, List.set_cons_zero, List.set_cons_succ]
  refine held_take (i := 14) 17 (v := ?va14x13) rfl rfl (by kernel_rfl) (by kernel_rfl) (by kernel_rfl) (fun _ _ _ h => h) hS (by rfl) ?ha14x13 ?ra14x13
  case ha14x13 =>
    intro w9 s9
    have hl := LN.out w9 s9
    clear s9
    go_simp
    try (with_reducible rfl)
  simp only [List.setIfInBounds_toArray, List.set_cons_zero, List.set_cons_succ]
  refine held_take (i := 15) 18 (v := ?va15x14) rfl rfl (by kernel_rfl) (by kernel_rfl) (by kernel_rfl) (fun _ _ _ h => h) hS (by rfl) ?ha15x14 ?ra15x14
  case ha15x14 =>
    intro w9 s9
    clear s9
    go_simp
    try (with_reducible rfl)
  simp only [List.setIfInBounds_toArray, List.set_cons_zero, List.set_cons_succ]
  refine held_take (i := 16) 2 (v := ?va16x15) rfl rfl (by kernel_rfl) (by kernel_rfl) (by kernel_rfl) (fun _ _ _ h => h) hS (by rfl) ?ha16x15 ?ra16x15
  case ha16x15 =>
    intro w9 s9
    clear s9
    go_simp
    try (with_reducible rfl)
  simp only [List.setIfInBounds_toArray, List.set_cons_zero, List.set_cons_succ]
  refine wpAnyH_done (by kernel_rfl) ?_ _
  have H9 := Lib.hid hS
  clear hS
  go_wp2_with fail
  go_ret
  exact ⟨rfl, H9.out⟩
def usedL (st : ShS) (size : Nat) : Nat → Nat
  | 0 => 0
  | k + 1 => usedL st size k + (if 2 ≤ k ∧ hasB st.h.used (k : Int) = true then 1 else 0)
def usedN (st : ShS) (size : Nat) : Nat := usedL st size size
theorem usedL_le (st : ShS) (size k : Nat) : usedL st size k ≤ k := by
  induction k with
  | zero => exact Nat.le_refl _
  | succ k ih => unfold usedL; split <;> omega
theorem usedL_2 (st : ShS) (size : Nat) : usedL st size 2 = 0 := by
  unfold usedL usedL usedL
  simp
theorem own_keptB {w w' : World} {e : TypeId} {v : Value} {n : Nat} {xs : List Value} (h : w.ownsRow 0 e 1 v n xs) (hb : Below w.heap.size w w') : w'.ownsRow 0 e 1 v n xs := by
  refine ⟨h.1, ?_⟩
  rcases h.2 with hx | ⟨g, cap, cur, hv, hbg, hh, r⟩
  · exact .inl hx
  · exact .inr ⟨g, cap, cur, hv, hbg, (hb.block g (Array.getElem?_eq_some_iff.1 hh).1).trans hh, r⟩
theorem int_info : ∃ i, Tryd.prog.info? 3 = some i ∧ i.zero = some (.int .i64 0) ∧ i.size = 1 ∧ i.bytes = 8 := by
  have : (Tryd.prog.info? 3).map (fun i => (i.zero, i.size, i.bytes)) = some (some (.int .i64 0), 1, 8) := by kernel_rfl
  cases hq : Tryd.prog.info? 3 with
  | none => rw [hq] at this; cases this
  | some i =>
    rw [hq] at this
    simp only [Option.map_some, Option.some.injEq, Prod.mk.injEq] at this
    exact ⟨i, rfl, this.1, this.2.1, this.2.2⟩
/-- A row of the call's own (blocks from B on) that grows by one. -/
theorem own_grow (w wr : World) (v : Value) (n : Nat) (xs : List Value) (h : wr.ownsRow 0 3 1 v n xs) (hv : ∀ k, v.ownBlock = some k → w.heap.size ≤ k) (hb : Below w.heap.size w wr) (x : Int) (hn : n ≤ 100000) :
    ∃ v' w', (Builtin.append_ #[23, 23] 23 #[v, .slice (some ⟨wr.heap.size, 0, none⟩) 1 1]).run Tryd.prog (wr.alloc (.cells #[.int .i64 x] 3)) = .ok v' w' ∧ w'.ownsRow 0 3 1 v' (n + 1) (xs ++ [.int .i64 x]) ∧ (∀ k, v'.ownBlock = some k → w.heap.size ≤ k) ∧ Below w.heap.size w w' := by
  obtain ⟨i, hinfo, hz0, hz1, hz2⟩ := int_info
  have hu : (wr.alloc (.cells #[.int .i64 x] 3)).cell? ⟨wr.heap.size, 0, none⟩ = some (.int .i64 x) := by rw [World.cell?_alloc_new]; rfl
  obtain ⟨v', w5, k, hap, hown, hgrow, hkb, hkc⟩ := append_one Tryd.prog (wr.alloc (.cells #[.int .i64 x] 3)) 23 23 3 i _ Tryd.underlying23 hinfo hz0 hz1 hz2 rfl v n _ (own_keptB h ((Below.refl _ _).alloc (Nat.le_refl _) _)) wr.heap.size _ hu rfl (by omega)
  have hbs := hb.size
  refine ⟨v', w5, hap, hown, fun q hq => ?_, ?_⟩
  · rw [hkb] at hq
    injection hq with hq
    subst hq
    rcases hkc with h1 | h1
    · exact hv _ h1
    · have : (wr.alloc (.cells #[.int .i64 x] 3)).heap.size = wr.heap.size + 1 := by simp
      omega
  · have h1 := Frm.grown (F := fun _ => False) (a := w) (w := wr.alloc (.cells #[.int .i64 x] 3)) (w' := w5) ((Frm.of_below hb).alloc _) hgrow (fun k hk => .inr (hv k hk))
    exact h1.below (fun i hi => hi.elim) (Nat.le_refl _)
set_option maxHeartbeats 3200000 in
set_option maxRecDepth 20000 in
theorem usedlist_is (w : World) (s d : Nat) (dk : DkS) (st : ShS) (FD F : Nat → Prop) (hd : Dk w d dk FD) (h : Sto w s d st F) :
    Calls Tryd.prog 19 #[.pointer (some ⟨s, 0, none⟩)] w fun e w' => (∃ a cap, e = .returned (.slice a (usedN st dk.S.length) cap)) ∧ Below w.heap.size w w' := by
  have hz := hd.ok.few
  have h8 := hd.ok.least
  have SZ := Lib.hid (fun w' (hb : Below w.heap.size w w') => stosize_is w' s d st F (h.below hb) dk FD (hd.below hb))
  have US := Lib.hid (fun (k : Nat) (hk : k ≤ 640) w' (hb : Below w.heap.size w w') => used_is w' s d st F (h.below hb) (k : Int) (by omega))
  have UL := Lib.hid (usedL_le st dk.S.length)
  have U2 := Lib.hid (usedL_2 st dk.S.length)
  have UN : Hid (usedN st dk.S.length = usedL st dk.S.length dk.S.length) := Lib.hid rfl
  have UT := Lib.hid (fun k => show usedL st dk.S.length (k + 1) = usedL st dk.S.length k + (if 2 ≤ k ∧ hasB st.h.used (k : Int) = true then 1 else 0) from rfl)
  clear hd h
  generalize dk.S.length = sz at *
  go_enter Tryd.func19, Tryd.ntmps19
  go_wp2_with fail
  go_loopw [3, 4] (fun v i wr => ∃ (k n : Nat) (xs : List Value), 2 ≤ k ∧ k ≤ sz ∧ i = .int .i64 (k : Int) ∧ usedL st sz k = n ∧ wr.ownsRow 0 3 1 v n xs ∧ (∀ q, v.ownBlock = some q → w.heap.size ≤ q) ∧ Below w.heap.size w wr) (fun _ i _ => 641 - (intOf i).toNat)
  case atStart => exact ⟨2, 0, [], Nat.le_refl _, by omega, rfl, U2.out, World.ownsRow_nil _ _ _ _, (fun q hq => by cases hq), Below.refl _ _⟩
  case round =>
    obtain ⟨k, n, xs, hk2, hkz, rfl, hul, hown, hvb, hb⟩ := hrel
    have HB := Lib.hid hb
    have HO := Lib.hid hown
    have HV := Lib.hid hvb
    have S1 := Lib.hid (SZ.out wr hb)
    have U1 := Lib.hid (US.out k (by omega) wr hb)
    have ULK := UL.out k
    have UTK := Lib.hid (UT.out k)
    obtain ⟨va, vc, hvv, -, -, -⟩ := Rd.own hown
    have hxl : xs.length = n := by have := hown.1; omega
    rw [hxl] at hvv
    subst hvv
    clear hb hown hvb
    by_cases hlt : k < sz
    · have hkz2 : (k : Int) < (sz : Int) := by omega
      cases hu : hasB st.h.used (k : Int)
      · rw [hu] at U1
        have NXT : Hid (usedL st sz (k + 1) = n) := Lib.hid (by rw [UTK.out, hu, if_neg (by simp), Nat.add_zero]; exact hul)
        go_wp2_with fail
        refine S1.out.mono ?_
        rintro e w1 ⟨rfl, rfl⟩
        go_wp2_with fail
        refine U1.out.mono ?_
        rintro e w1 ⟨rfl, rfl⟩
        go_wp2_with fail
        go_roundw
        case rel => exact ⟨k + 1, n, xs, by omega, by omega, by go_num, NXT.out, HO.out, HV.out, HB.out⟩
        case measure => simp [intOf]; omega
      · rw [hu] at U1
        have NXT : Hid (usedL st sz (k + 1) = n + 1) := Lib.hid (by rw [UTK.out, hu, if_pos ⟨hk2, rfl⟩, hul])
        obtain ⟨v', w5, hap, ho5, hv5, hb5⟩ := own_grow w wr _ n xs HO.out HV.out HB.out (k : Int) (by omega)
        have O5 := Lib.hid ho5
        have V5 := Lib.hid hv5
        have B5 := Lib.hid hb5
        clear ho5 hv5 hb5
        go_wp2_with fail
        refine S1.out.mono ?_
        rintro e w1 ⟨rfl, rfl⟩
        go_wp2_with fail
        refine U1.out.mono ?_
        rintro e w1 ⟨rfl, rfl⟩
        go_wp2_with (at_builtin; refine append_run rfl (.tmp 14) (.tmp 16) 23 rfl _ _ _ rfl rfl hap ?_)
        go_roundw
        case rel => exact ⟨k + 1, n + 1, _, by omega, by omega, by go_num, NXT.out, O5.out, V5.out, B5.out⟩
        case measure => simp [intOf]; omega
    · obtain rfl : k = sz := by omega
      have hkz2 : ¬ (k : Int) < (k : Int) := by omega
      go_wp2_with fail
      refine S1.out.mono ?_
      rintro e w1 ⟨rfl, rfl⟩
      go_wp2_with fail
      try rw [Exit.noGoto_ret]
      go_ret
      exact ⟨⟨va, vc, by rw [UN.out, hul]; rfl⟩, HB.out⟩
end Go.Proofs.YtbjmbndeaobbeaaDoor
