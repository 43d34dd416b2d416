/-
  Package node: cut.
-/
import Derived.Test.YtkdcoipbdkmieaaNodeSp
import Derived.Test.YtkdcoipbdkmieaaHeld
namespace Go.Proofs.Ytkdcoipbdkmieaa
open Go.RowKit
set_option linter.unusedVariables false
set_option linter.unusedSimpArgs false
/-- Where the cutting ends, so many keys ahead of the last place, from place k on, when the first part has s bytes. -/
def cutFrom (n : Nod) (half : Nat) : Nat → Nat → Nat → Nat
  | 0, k, _ => k
  | f + 1, k, s => if half ≤ s then k else cutFrom n half f (k + 1) (s + shareN n k)
def mostN (n : Nod) : Nat := n.K.length - leastN n.leaf + 1
def cutN (n : Nod) : Nat := cutFrom n (sizeN n / 2) (mostN n - 1) 1 (sizeN (aheadN n 1))
theorem cutFrom_le (n : Nod) (half : Nat) : ∀ f k s, k ≤ cutFrom n half f k s ∧ cutFrom n half f k s ≤ k + f := by
  intro f
  induction f with
  | zero => intro k s; exact ⟨Nat.le_refl _, Nat.le_refl _⟩
  | succ f ih =>
    intro k s
    unfold cutFrom
    split
    · exact ⟨Nat.le_refl _, by omega⟩
    · have := ih (k + 1) (s + shareN n k)
      exact ⟨by omega, by omega⟩
theorem cutN_le (n : Nod) : 1 ≤ cutN n ∧ cutN n ≤ mostN n := by
  have := cutFrom_le n (sizeN n / 2) (mostN n - 1) 1 (sizeN (aheadN n 1))
  have h : 1 ≤ mostN n := by unfold mostN; omega
  unfold cutN
  omega
theorem ahead_whole (n : Nod) (p : Nat) (hw : wholeB n = true) (hp : p ≤ n.K.length) : wholeB (aheadN n p) = true := by
  unfold aheadN
  cases hl : n.leaf with
  | true =>
    have := (wholeB_leaf hl).1 hw
    exact (wholeB_leaf rfl).2 ⟨by simp [this.1], rfl⟩
  | false =>
    have := (wholeB_branch hl).1 hw
    exact (wholeB_branch rfl).2 ⟨by simp [this.1], rfl⟩
theorem share_le (n : Nod) (i : Nat) (ho : NodOk n) : shareN n i ≤ 9 + 140737488351232 := by
  unfold shareN
  split
  · rw [List.getD_eq_getElem?_getD]
    cases h : n.V[i]? with
    | none => simp
    | some v => have := ho.vb v (List.mem_of_getElem? h); simp; omega
  · omega
theorem size_ahead1 (n : Nod) (ho : NodOk n) : sizeN (aheadN n 1) ≤ 281474976710656 := by
  have h : ∀ (l : List ByteArray), (∀ v ∈ l, v.size ≤ 140737488351232) → bytesV (l.take 1) ≤ 140737488351232 := by
    intro l hl
    cases l with
    | nil => simp [bytesV]
    | cons a l => simpa [bytesV] using hl a (by simp)
  have hb := h n.V ho.vb
  unfold aheadN sizeN
  cases n.leaf
  · simp only [Bool.false_eq_true, if_false]
    have h1 : (n.K.take 1).length ≤ 1 := by simp; omega
    have h2 : (n.C.take (1 + 1)).length ≤ 2 := by simp; omega
    omega
  · simp only [if_true]
    have h1 : (n.K.take 1).length ≤ 1 := by simp; omega
    omega
theorem sizeN_le (n : Nod) (ho : NodOk n) : sizeN n ≤ 140737488351232 * 1000 + 20000 := by
  have := bytesV_le n.V _ ho.vb
  have h1 := ho.k1
  have h2 := ho.v1
  have h3 := ho.c1
  have h4 : n.V.length * 140737488351232 ≤ 1000 * 140737488351232 := Nat.mul_le_mul_right _ h2
  unfold sizeN
  split <;> omega
set_option maxHeartbeats 3200000 in
set_option maxRecDepth 20000 in
theorem cut_is (n : Nod) (ak av ac : Option Addr) (ck cv cc : Nat) (w : World) (h : NodR w n ak av ac ck cv cc) (hw : wholeB n = true) (hl : leastN n.leaf ≤ n.K.length) :
    Calls Try.prog 41 #[nodV n ak av ac ck cv cc] w fun e w' => e = .returned (.int .i64 (cutN n : Int)) ∧ Below w.heap.size w w' := by
  have hk1 := h.ok.k1
  have hle2 : 2 ≤ leastN n.leaf := by unfold leastN; split <;> omega
  have SZ := Lib.hid (fun w' (hb : Below w.heap.size w w') => size_is n ak av ac ck cv cc w' (h.below hb) _ (Lib.hid rfl) hw)
  have LS := Lib.hid (fun w' => least_is n ak av ac ck cv cc w')
  have AH := Lib.hid (fun w' (hb : Below w.heap.size w w') => ahead_is n ak av ac ck cv cc w' (h.below hb) 1 hw (by omega))
  have SA := Lib.hid (fun ak av ac ck cv cc w' (h : NodR w' (aheadN n 1) ak av ac ck cv cc) => size_is (aheadN n 1) ak av ac ck cv cc w' h _ (Lib.hid rfl) (ahead_whole n 1 hw (by omega)))
  have SH := Lib.hid (fun i (hi : i < n.K.length) w' (hb : Below w.heap.size w w') => share_is n ak av ac ck cv cc w' (h.below hb) i hw hi _ rfl)
  have SHL := Lib.hid (fun i => share_le n i h.ok)
  have hz := sizeN_le n h.ok
  have ha1 := size_ahead1 n h.ok
  obtain ⟨half, hhf⟩ : ∃ half, sizeN n / 2 = half := ⟨_, rfl⟩
  obtain ⟨most, hms⟩ : ∃ most, mostN n = most := ⟨_, rfl⟩
  have hm1 : 1 ≤ most := by rw [← hms]; unfold mostN; omega
  have hm2 : (n.K.length : Int) - (leastN n.leaf : Int) + 1 = (most : Int) := by rw [← hms]; unfold mostN; omega
  have hm3 : most < n.K.length := by rw [← hms]; unfold mostN; omega
  have F0 : Hid (cutFrom n half (most - 1) 1 (sizeN (aheadN n 1)) = cutN n) := Lib.hid (by unfold cutN; rw [hhf, hms])
  have FS := Lib.hid (fun f k s => show cutFrom n half (f + 1) k s = if half ≤ s then k else cutFrom n half f (k + 1) (s + shareN n k) from rfl)
  have FZ := Lib.hid (fun k s => show cutFrom n half 0 k s = k from rfl)
  generalize cutN n = c at *
  generalize hzn : sizeN n = z at *
  generalize sizeN (aheadN n 1) = za at *
  obtain ⟨d, hd⟩ : ∃ d : Nat, (n.K.length : Int) - (leastN n.leaf : Int) = (d : Int) := ⟨n.K.length - leastN n.leaf, by omega⟩
  have hw1 : IntKind.i64.wrap ((n.K.length : Int) - (leastN n.leaf : Int)) = (d : Int) := by rw [hd]; exact IntWalk.i64_in _ (by omega)
  have hw2 : IntKind.i64.wrap ((d : Int) + 1) = (most : Int) := by rw [← hd, hm2]; exact IntWalk.i64_in _ (by omega)
  have hw3 : (z : Int).tdiv 2 = (half : Int) := by rw [Int.tdiv_eq_ediv_of_nonneg (by omega)]; omega
  have hw4 : (z : Int) / 2 = (half : Int) := by omega
  have hw5 : IntKind.i64.wrap (half : Int) = (half : Int) := IntWalk.i64_in _ (by omega)
  have HB : Hid (Below w.heap.size w w) := Lib.hid (Below.refl _ _)
  clear hd hm2 hhf hms hz hle2 hl hw hzn h
  obtain ⟨lf, K, V, C⟩ := n
  unfold nodV at *
  dsimp only at *
  generalize K.length = lk at *
  generalize V.length = lv at *
  generalize C.length = lc at *
  obtain ⟨W, hW⟩ : ∃ W, w.alloc (.cells #[.bool lf, .slice ak lk ck, .slice av lv cv, .slice ac lc cc] 26) = W := ⟨_, rfl⟩
  have bW : Below w.heap.size w W := by rw [← hW]; exact below_made _ _
  have XW : Hid (W.heap[w.heap.size]? = some (.cells #[.bool lf, .slice ak lk ck, .slice av lv cv, .slice ac lc cc] 26)) := Lib.hid (by rw [← hW]; exact heap_alloc_new _ _)
  have BW := Lib.hid bW
  have HW := Lib.hid hW
  clear bW hW
  go_enter Try.func41, Try.ntmps41
  go_wp2_with fail
  rw [HW.out]
  clear HW
  refine wp_region_held_drew (S := fun w' => Below W.heap.size W w') (by kernel_rfl) (Below.refl W.heap.size W).drew (fun hS => ?_)
  refine held_take (i := 0) 7 (v := ?va0x1) rfl rfl (by kernel_rfl) (by kernel_rfl) (by kernel_rfl) (fun _ _ _ h => h) hS (by rfl) ?ha0x1 ?ra0x1
  case ha0x1 =>
    intro w9 s9
    have X9 := kept XW.out s9
    have c0 : w9.cell? ⟨w.heap.size, 0, none⟩ = some (.bool lf) := by rw [Go.Joins.cell_of_block X9]; rfl
    have c1 : w9.cell? ⟨w.heap.size, 1, none⟩ = some (.slice ak lk ck) := by rw [Go.Joins.cell_of_block X9]; rfl
    have c2 : w9.cell? ⟨w.heap.size, 2, none⟩ = some (.slice av lv cv) := by rw [Go.Joins.cell_of_block X9]; rfl
    have c3 : w9.cell? ⟨w.heap.size, 3, none⟩ = some (.slice ac lc cc) := by rw [Go.Joins.cell_of_block X9]; rfl
    clear s9
    go_simp
    try (with_reducible rfl)
  simp only [List.setIfInBounds_toArray, List.set_cons_zero, List.set_cons_succ]
  refine held_take (i := 3) 10 (v := ?va3x2) rfl rfl (by kernel_rfl) (by kernel_rfl) (by kernel_rfl) (fun _ _ _ h => h) hS (by rfl) ?ha3x2 ?ra3x2
  case ha3x2 =>
    intro w9 s9
    clear s9
    go_simp
    try (with_reducible rfl)
  simp only [List.setIfInBounds_toArray, List.set_cons_zero, List.set_cons_succ]
  refine held_take (i := 4) 11 (v := ?va4x3) rfl rfl (by kernel_rfl) (by kernel_rfl) (by kernel_rfl) (fun _ _ _ h => h) hS (by rfl) ?ha4x3 ?ra4x3
  case ha4x3 =>
    intro w9 s9
    have X9 := kept XW.out s9
    have c0 : w9.cell? ⟨w.heap.size, 0, none⟩ = some (.bool lf) := by rw [Go.Joins.cell_of_block X9]; rfl
    have c1 : w9.cell? ⟨w.heap.size, 1, none⟩ = some (.slice ak lk ck) := by rw [Go.Joins.cell_of_block X9]; rfl
    have c2 : w9.cell? ⟨w.heap.size, 2, none⟩ = some (.slice av lv cv) := by rw [Go.Joins.cell_of_block X9]; rfl
    have c3 : w9.cell? ⟨w.heap.size, 3, none⟩ = some (.slice ac lc cc) := by rw [Go.Joins.cell_of_block X9]; rfl
    clear s9
    go_simp
    try (with_reducible rfl)
  simp only [List.setIfInBounds_toArray, List.set_cons_zero, List.set_cons_succ]
  refine held_take (i := 5) 12 (v := ?va5x4) rfl rfl (by kernel_rfl) (by kernel_rfl) (by kernel_rfl) (fun _ _ _ h => h) hS (by rfl) ?ha5x4 ?ra5x4
  case ha5x4 =>
    intro w9 s9
    clear s9
    go_simp
    try (with_reducible rfl)
  simp only [List.setIfInBounds_toArray, List.set_cons_zero, List.set_cons_succ]
  refine held_take (i := 6) 13 (v := ?va6x5) rfl rfl (by kernel_rfl) (by kernel_rfl) (by kernel_rfl) (fun _ _ _ h => h) hS (by rfl) ?ha6x5 ?ra6x5
  case ha6x5 =>
    intro w9 s9
    have X9 := kept XW.out s9
    have c0 : w9.cell? ⟨w.heap.size, 0, none⟩ = some (.bool lf) := by rw [Go.Joins.cell_of_block X9]; rfl
    have c1 : w9.cell? ⟨w.heap.size, 1, none⟩ = some (.slice ak lk ck) := by rw [Go.Joins.cell_of_block X9]; rfl
    have c2 : w9.cell? ⟨w.heap.size, 2, none⟩ = some (.slice av lv cv) := by rw [Go.Joins.cell_of_block X9]; rfl
    have c3 : w9.cell? ⟨w.heap.size, 3, none⟩ = some (.slice ac lc cc) := by rw [Go.Joins.cell_of_block X9]; rfl
    clear s9
    go_simp
    try (with_reducible rfl)
  simp only [List.setIfInBounds_toArray, List.set_cons_zero, List.set_cons_succ]
  refine held_step (i := 1) rfl (by kernel_rfl) (fun K hK => ?_)
  have HK := Lib.hid hK
  clear hK
  go_simp
  go_wp2_with fail
  refine (SZ.out _ (chain BW.out hS)).mono ?_
  rintro e v1 ⟨rfl, b1⟩
  refine HK.out _ _ ?_ ?_
  · exact chain hS b1
  clear HK K
  try simp only [Act.put, List.setIfInBounds_toArray, List.set_cons_zero, List.set_cons_succ]
  have hS9 := chain hS b1
  clear hS
  have hS := hS9
  clear hS9
  clear b1
  refine held_take (i := 2) 9 (v := ?va2x6) rfl rfl (by kernel_rfl) (by kernel_rfl) (by kernel_rfl) (fun _ _ _ h => h) hS (by rfl) ?ha2x6 ?ra2x6
  case ha2x6 =>
    intro w9 s9
    clear s9
    go_simp
    try (with_reducible rfl)
  simp only [List.setIfInBounds_toArray, List.set_cons_zero, List.set_cons_succ]
  refine held_step (i := 7) rfl (by kernel_rfl) (fun K hK => ?_)
  have HK := Lib.hid hK
  clear hK
  go_simp
  go_wp2_with fail
  refine (LS.out _).mono ?_
  rintro e v2 ⟨rfl, b2⟩
  refine HK.out _ _ ?_ ?_
  · exact chain hS b2
  clear HK K
  try simp only [Act.put, List.setIfInBounds_toArray, List.set_cons_zero, List.set_cons_succ]
  have hS9 := chain hS b2
  clear hS
  have hS := hS9
  clear hS9
  clear b2
  refine held_take (i := 8) 15 (v := ?va8x7) rfl rfl (by kernel_rfl) (by kernel_rfl) (by kernel_rfl) (fun _ _ _ h => h) hS (by rfl) ?ha8x7 ?ra8x7
  case ha8x7 =>
    intro w9 s9
    clear s9
    go_simp
    try (with_reducible rfl)
  simp only [List.setIfInBounds_toArray, List.set_cons_zero, List.set_cons_succ]
  refine held_take (i := 9) 16 (v := ?va9x8) rfl rfl (by kernel_rfl) (by kernel_rfl) (by kernel_rfl) (fun _ _ _ h => h) hS (by rfl) ?ha9x8 ?ra9x8
  case ha9x8 =>
    intro w9 s9
    clear s9
    go_simp
    try (with_reducible rfl)
  simp only [List.setIfInBounds_toArray, List.set_cons_zero, List.set_cons_succ]
  refine held_take (i := 10) 3 (v := ?va10x9) rfl rfl (by kernel_rfl) (by kernel_rfl) (by kernel_rfl) (fun _ _ _ h => h) hS (by rfl) ?ha10x9 ?ra10x9
  case ha10x9 =>
    intro w9 s9
    clear s9
    go_simp
    try (with_reducible rfl)
  simp only [List.setIfInBounds_toArray, List.set_cons_zero, List.set_cons_succ]
  refine held_take (i := 11) 4 (v := ?va11x10) rfl rfl (by kernel_rfl) (by kernel_rfl) (by kernel_rfl) (fun _ _ _ h => h) hS (by rfl) ?ha11x10 ?ra11x10
  case ha11x10 =>
    intro w9 s9
    clear s9
    go_simp
    try (with_reducible rfl)
  simp only [List.setIfInBounds_toArray, List.set_cons_zero, List.set_cons_succ]
  refine wpAnyH_done (by kernel_rfl) ?_ _
  have H1 := Lib.hid hS
  clear hS
  have X2 := Lib.hid (kept XW.out H1.out)
  have B2 := Lib.hid (chain BW.out H1.out)
  clear XW BW H1
  have y0 : v2.cell? ⟨w.heap.size, 0, none⟩ = some (.bool lf) := by rw [Go.Joins.cell_of_block X2.out]; rfl
  have y1 : v2.cell? ⟨w.heap.size, 1, none⟩ = some (.slice ak lk ck) := by rw [Go.Joins.cell_of_block X2.out]; rfl
  have y2 : v2.cell? ⟨w.heap.size, 2, none⟩ = some (.slice av lv cv) := by rw [Go.Joins.cell_of_block X2.out]; rfl
  have y3 : v2.cell? ⟨w.heap.size, 3, none⟩ = some (.slice ac lc cc) := by rw [Go.Joins.cell_of_block X2.out]; rfl
  go_wp2_with fail
  refine (AH.out _ B2.out).mono ?_
  rintro e v3 ⟨⟨xk, xv, xc, dk, dv, dc, rfl, hR, -, -, -⟩, b3⟩
  have R3 := Lib.hid hR
  have X3 := Lib.hid (kept X2.out b3)
  have B3 := Lib.hid (chain B2.out b3)
  clear hR b3 X2 B2 y0 y1 y2 y3 AH
  unfold nodV
  go_wp2_with fail
  refine (SA.out _ _ _ _ _ _ _ R3.out).mono ?_
  rintro e v4 ⟨rfl, b4⟩
  have X4 := Lib.hid (kept X3.out b4)
  have B4 := Lib.hid (chain B3.out b4)
  clear b4 X3 B3 R3 SA
  go_wp2_with fail
  go_loopw [5, 6] (fun s k wr => ∃ j y : Nat, 1 ≤ j ∧ j ≤ most ∧ k = .int .i64 (j : Int) ∧ s = .int .i64 (y : Int) ∧ y ≤ j * 281474976710656 ∧ cutFrom { leaf := lf, K := K, V := V, C := C } half (most - j) j y = c ∧ Below v4.heap.size v4 wr) (fun _ k _ => most + 1 - (intOf k).toNat)
  case atStart => exact ⟨1, za, Nat.le_refl _, hm1, rfl, rfl, by omega, F0.out, Below.refl _ _⟩
  case round =>
    obtain ⟨j, y, hj1, hj2, rfl, rfl, hy, hc, hb⟩ := hrel
    have XR := Lib.hid (kept X4.out hb)
    have BR := Lib.hid (chain B4.out hb)
    have HBR := Lib.hid hb
    have HC := Lib.hid hc
    clear hb hc
    have y0 : wr.cell? ⟨w.heap.size, 0, none⟩ = some (.bool lf) := by rw [Go.Joins.cell_of_block XR.out]; rfl
    have y1 : wr.cell? ⟨w.heap.size, 1, none⟩ = some (.slice ak lk ck) := by rw [Go.Joins.cell_of_block XR.out]; rfl
    have y2 : wr.cell? ⟨w.heap.size, 2, none⟩ = some (.slice av lv cv) := by rw [Go.Joins.cell_of_block XR.out]; rfl
    have y3 : wr.cell? ⟨w.heap.size, 3, none⟩ = some (.slice ac lc cc) := by rw [Go.Joins.cell_of_block XR.out]; rfl
    by_cases hlt : j < most
    · have hji : (j : Int) < (most : Int) := by omega
      have hfu := FS.out (most - j - 1) j y
      rw [show most - j - 1 + 1 = most - j from by omega, HC.out] at hfu
      by_cases hhy : half ≤ y
      · rw [if_pos hhy] at hfu
        subst hfu
        have hhi : (half : Int) ≤ (y : Int) := by omega
        clear hhy HC F0 FS FZ
        go_wp2_with fail
        try rw [Exit.noGoto_ret]
        go_ret
        exact ⟨rfl, BR.out⟩
      · rw [if_neg hhy] at hfu
        have HFU := Lib.hid hfu
        have hsl := SHL.out j
        have hhi : ¬ (half : Int) ≤ (y : Int) := by omega
        have hyy : IntKind.i64.wrap ((y : Int) + (shareN { leaf := lf, K := K, V := V, C := C } j : Int)) = (y : Int) + (shareN { leaf := lf, K := K, V := V, C := C } j : Int) := IntWalk.i64_in _ (by omega)
        clear hfu hhy
        have SHJ := Lib.hid (SH.out j (by omega) wr BR.out)
        generalize shareN { leaf := lf, K := K, V := V, C := C } j = sh at *
        go_wp2_with fail
        refine SHJ.out.mono ?_
        rintro e v5 ⟨rfl, b5⟩
        go_wp2_with fail
        go_roundw
        case rel => exact ⟨j + 1, y + sh, by omega, by omega, by go_num, by go_num, by omega, by rw [HFU.out]; congr 1, chain HBR.out b5⟩
        case measure => simp [intOf]; omega
    · obtain rfl : j = most := by omega
      have hji : ¬ (j : Int) < (j : Int) := by omega
      have hfz := HC.out
      rw [Nat.sub_self, FZ.out] at hfz
      subst hfz
      clear HC F0 FS FZ
      go_wp2_with fail
      try rw [Exit.noGoto_ret]
      go_ret
      exact ⟨rfl, BR.out⟩
end Go.Proofs.Ytkdcoipbdkmieaa
