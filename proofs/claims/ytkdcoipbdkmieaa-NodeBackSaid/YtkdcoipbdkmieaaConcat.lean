/-
  slices.Grow of nothing, slices.Concat, node.glue: lists put one behind the other, as a new one.
-/
import Derived.Test.YtkdcoipbdkmieaaNodeF
import Derived.Lib.AppendZeros
namespace Go.Proofs.Ytkdcoipbdkmieaa
open Go.RowKit
set_option linter.unusedVariables false
set_option linter.unusedSimpArgs false
/-- A list that is handed in: where it lies, what it reads as, its room. -/
structure Src where
  a : Option Addr
  L : List Value
  c : Nat
def Src.val (s : Src) : Value := .slice s.a s.L.length s.c
def flatS : List Src → List Value
  | [] => []
  | s :: r => s.L ++ flatS r
theorem flatS_append (x y : List Src) : flatS (x ++ y) = flatS x ++ flatS y := by
  induction x with
  | nil => rfl
  | cons a x ih => simp [flatS, ih]
theorem flatS_take (l : List Src) (j : Nat) (h : j < l.length) : flatS (l.take (j + 1)) = flatS (l.take j) ++ l[j].L := by
  rw [List.take_succ_eq_append_getElem h, flatS_append]
  simp [flatS]
theorem flatS_le (l : List Src) (j : Nat) : (flatS (l.take j)).length ≤ (flatS l).length := by
  have : flatS l = flatS (l.take j) ++ flatS (l.drop j) := by rw [← flatS_append, List.take_append_drop]
  rw [this, List.length_append]; omega
/-- A row of the call's own is handed back. -/
def RowOut (base : Nat) (T : TypeId) (L : List Value) (e : Ending) (w' : World) : Prop := ∃ v, e = .returned v ∧ w'.ownsRow base T 1 v L.length L
theorem info_U : (Try.prog.info? 27).map (fun i => (i.zero, i.size, i.bytes)) = some (some (.int .u64 0), 1, 8) := by kernel_rfl
set_option maxHeartbeats 800000 in
set_option maxRecDepth 20000 in
theorem grow_U (n : Nat) (w : World) (hn : n ≤ 100000) :
    Calls Try.prog 63 #[.slice none 0 0, .int .i64 (n : Int)] w fun e w' => RowOut w.heap.size 27 [] e w' ∧ Below w.heap.size w w' := by
  obtain ⟨i0, hi, hz0, hz1, hz2⟩ := info_parts info_U
  by_cases h0 : n = 0
  · subst h0
    clear hi hz0 hz1 hz2
    go_enter Try.func63, Try.ntmps63
    go_wp2_with fail
    go_ret
    exact ⟨⟨_, rfl, World.ownsRow_nil _ _ _ _⟩, Below.refl _ _⟩
  · have hp : 0 < n := by omega
    have hpi : 0 < (n : Int) := by omega
    have hA := Lib.run_append_nil_zeros (P := Try.prog) w 22 3 22 27 i0 (.int .u64 0) .i64 .i64 Try.underlying22 Try.underlying3 hi hz0 n hp (by omega) (by omega) (by rw [hz2]; omega)
    have hge := grownCap_ge w n 0 27
    have hle := grownCap_le_maxLen w n 0 27 (by unfold maxLen; omega)
    have hsz : (Builtin.zeroCells (.int .u64 0 : Value).cells n ++ Builtin.zeroCells (.int .u64 0 : Value).cells (grownCap w n 0 27 - n)).size = grownCap w n 0 27 := by
      rw [Array.size_append, size_zeroCells, size_zeroCells]
      show n * 1 + (grownCap w n 0 27 - n) * 1 = _
      omega
    generalize Builtin.zeroCells (.int .u64 0 : Value).cells n ++ Builtin.zeroCells (.int .u64 0 : Value).cells (grownCap w n 0 27 - n) = cs at *
    generalize grownCap w n 0 27 = cap at *
    have FIN : Hid (RowOut w.heap.size 27 [] (.returned (.slice (some ⟨w.heap.size, 0, none⟩) 0 cap)) (w.drew.alloc (.cells cs 27)) ∧ Below w.heap.size w (w.drew.alloc (.cells cs 27))) := Lib.hid
      ⟨⟨_, rfl, rfl, .inr ⟨w.heap.size, cap, cs, rfl, Nat.le_refl _, heap_alloc_new w.drew _, Nat.zero_le _, hle, by rw [hsz]; omega, rfl⟩⟩, ((Below.refl _ _).drew).alloc (Nat.le_refl _) _⟩
    have hc0 : ¬ cap = 0 := by omega
    clear hi hz0 hz1 hz2 hge hle hsz h0
    have HA := Lib.hid hA
    clear hA
    go_enter Try.func63, Try.ntmps63
    go_wp2_with (at_builtin; refine Lib.wpList_append_run _ rfl _ _ _ _ rfl _ _ rfl rfl _ _ HA.out ?_)
    go_ret
    exact FIN.out
theorem info_S : (Try.prog.info? 9).map (fun i => (i.zero, i.size, i.bytes)) = some (some (.string ByteArray.empty), 1, 16) := by kernel_rfl
set_option maxHeartbeats 800000 in
set_option maxRecDepth 20000 in
theorem grow_S (n : Nat) (w : World) (hn : n ≤ 100000) :
    Calls Try.prog 64 #[.slice none 0 0, .int .i64 (n : Int)] w fun e w' => RowOut w.heap.size 9 [] e w' ∧ Below w.heap.size w w' := by
  obtain ⟨i0, hi, hz0, hz1, hz2⟩ := info_parts info_S
  by_cases h0 : n = 0
  · subst h0
    clear hi hz0 hz1 hz2
    go_enter Try.func64, Try.ntmps64
    go_wp2_with fail
    go_ret
    exact ⟨⟨_, rfl, World.ownsRow_nil _ _ _ _⟩, Below.refl _ _⟩
  · have hp : 0 < n := by omega
    have hpi : 0 < (n : Int) := by omega
    have hA := Lib.run_append_nil_zeros (P := Try.prog) w 23 3 23 9 i0 (.string ByteArray.empty) .i64 .i64 Try.underlying23 Try.underlying3 hi hz0 n hp (by omega) (by omega) (by rw [hz2]; omega)
    have hge := grownCap_ge w n 0 9
    have hle := grownCap_le_maxLen w n 0 9 (by unfold maxLen; omega)
    have hsz : (Builtin.zeroCells (.string ByteArray.empty : Value).cells n ++ Builtin.zeroCells (.string ByteArray.empty : Value).cells (grownCap w n 0 9 - n)).size = grownCap w n 0 9 := by
      rw [Array.size_append, size_zeroCells, size_zeroCells]
      show n * 1 + (grownCap w n 0 9 - n) * 1 = _
      omega
    generalize Builtin.zeroCells (.string ByteArray.empty : Value).cells n ++ Builtin.zeroCells (.string ByteArray.empty : Value).cells (grownCap w n 0 9 - n) = cs at *
    generalize grownCap w n 0 9 = cap at *
    have FIN : Hid (RowOut w.heap.size 9 [] (.returned (.slice (some ⟨w.heap.size, 0, none⟩) 0 cap)) (w.drew.alloc (.cells cs 9)) ∧ Below w.heap.size w (w.drew.alloc (.cells cs 9))) := Lib.hid
      ⟨⟨_, rfl, rfl, .inr ⟨w.heap.size, cap, cs, rfl, Nat.le_refl _, heap_alloc_new w.drew _, Nat.zero_le _, hle, by rw [hsz]; omega, rfl⟩⟩, ((Below.refl _ _).drew).alloc (Nat.le_refl _) _⟩
    have hc0 : ¬ cap = 0 := by omega
    clear hi hz0 hz1 hz2 hge hle hsz h0
    have HA := Lib.hid hA
    clear hA
    go_enter Try.func64, Try.ntmps64
    go_wp2_with (at_builtin; refine Lib.wpList_append_run _ rfl _ _ _ _ rfl _ _ rfl rfl _ _ HA.out ?_)
    go_ret
    exact FIN.out
theorem info_I : (Try.prog.info? 3).map (fun i => (i.zero, i.size, i.bytes)) = some (some (.int .i64 0), 1, 8) := by kernel_rfl
set_option maxHeartbeats 800000 in
set_option maxRecDepth 20000 in
theorem grow_I (n : Nat) (w : World) (hn : n ≤ 100000) :
    Calls Try.prog 65 #[.slice none 0 0, .int .i64 (n : Int)] w fun e w' => RowOut w.heap.size 3 [] e w' ∧ Below w.heap.size w w' := by
  obtain ⟨i0, hi, hz0, hz1, hz2⟩ := info_parts info_I
  by_cases h0 : n = 0
  · subst h0
    clear hi hz0 hz1 hz2
    go_enter Try.func65, Try.ntmps65
    go_wp2_with fail
    go_ret
    exact ⟨⟨_, rfl, World.ownsRow_nil _ _ _ _⟩, Below.refl _ _⟩
  · have hp : 0 < n := by omega
    have hpi : 0 < (n : Int) := by omega
    have hA := Lib.run_append_nil_zeros (P := Try.prog) w 24 3 24 3 i0 (.int .i64 0) .i64 .i64 Try.underlying24 Try.underlying3 hi hz0 n hp (by omega) (by omega) (by rw [hz2]; omega)
    have hge := grownCap_ge w n 0 3
    have hle := grownCap_le_maxLen w n 0 3 (by unfold maxLen; omega)
    have hsz : (Builtin.zeroCells (.int .i64 0 : Value).cells n ++ Builtin.zeroCells (.int .i64 0 : Value).cells (grownCap w n 0 3 - n)).size = grownCap w n 0 3 := by
      rw [Array.size_append, size_zeroCells, size_zeroCells]
      show n * 1 + (grownCap w n 0 3 - n) * 1 = _
      omega
    generalize Builtin.zeroCells (.int .i64 0 : Value).cells n ++ Builtin.zeroCells (.int .i64 0 : Value).cells (grownCap w n 0 3 - n) = cs at *
    generalize grownCap w n 0 3 = cap at *
    have FIN : Hid (RowOut w.heap.size 3 [] (.returned (.slice (some ⟨w.heap.size, 0, none⟩) 0 cap)) (w.drew.alloc (.cells cs 3)) ∧ Below w.heap.size w (w.drew.alloc (.cells cs 3))) := Lib.hid
      ⟨⟨_, rfl, rfl, .inr ⟨w.heap.size, cap, cs, rfl, Nat.le_refl _, heap_alloc_new w.drew _, Nat.zero_le _, hle, by rw [hsz]; omega, rfl⟩⟩, ((Below.refl _ _).drew).alloc (Nat.le_refl _) _⟩
    have hc0 : ¬ cap = 0 := by omega
    clear hi hz0 hz1 hz2 hge hle hsz h0
    have HA := Lib.hid hA
    clear hA
    go_enter Try.func65, Try.ntmps65
    go_wp2_with (at_builtin; refine Lib.wpList_append_run _ rfl _ _ _ _ rfl _ _ rfl rfl _ _ HA.out ?_)
    go_ret
    exact FIN.out
set_option maxHeartbeats 1600000 in
set_option maxRecDepth 20000 in
theorem concat_U (al : Option Addr) (cl : Nat) (l : List Src) (w : World) (hl : Rd w al (l.map Src.val)) (hs : ∀ s ∈ l, Rd w s.a s.L) (h1 : ∀ s ∈ l, ∀ u ∈ s.L, u.oneCell' = true) (hf : (flatS l).length ≤ 100000) (hm : l.length ≤ 1000) :
    Calls Try.prog 54 #[.slice al l.length cl] w fun e w' => RowOut w.heap.size 27 (flatS l) e w' ∧ Below w.heap.size w w' := by
  obtain ⟨i0, hi, hz0, hz1, hz2⟩ := info_parts info_U
  have HL := Lib.hid hl
  have HS := Lib.hid hs
  have H1 := Lib.hid h1
  have HT := Lib.hid (flatS_take l)
  have HF := Lib.hid (fun j => Nat.le_trans (flatS_le l j) hf)
  have F0 : Hid ((flatS (l.take 0)).length = 0) := Lib.hid rfl
  have G := Lib.hid (fun n w (h : n ≤ 100000) => grow_U n w h)
  have APP := Lib.hid (fun (wr : World) v n xs hown a L c hr h1 h63 hb hbase => append_rd (P := Try.prog) wr w.heap.size 22 22 27 i0 (.int .u64 0) 8 Try.underlying22 hi hz0 hz1 hz2 rfl v n xs hown a L c hr h1 h63 hb hbase)
  obtain ⟨m, hm'⟩ : ∃ m, l.length = m := ⟨_, rfl⟩
  rw [hm'] at hm ⊢
  clear hl hs h1 hf hi hz0 hz1 hz2
  go_enter Try.func54, Try.ntmps54
  go_wp2_with fail
  go_loop [3, 11] (fun s i => ∃ j : Nat, j ≤ m ∧ i = .int .i64 (j : Int) ∧ s = .int .i64 ((flatS (l.take j)).length : Int)) (fun _ i => m + 1 - (intOf i).toNat)
  case atStart => exact ⟨0, Nat.zero_le _, rfl, by rw [F0.out]; rfl⟩
  case round =>
    obtain ⟨j, hj, rfl, rfl⟩ := hrel
    by_cases hlt : j < m
    · have hji : (j : Int) < (m : Int) := by omega
      have hjl : j < l.length := by omega
      obtain ⟨b, off, rfl, hb, hcell⟩ := HL.out.at j (by simpa using hjl)
      have hcell' : w.cell? ⟨b, off + j, none⟩ = some (.slice l[j].a l[j].L.length l[j].c) := by rw [hcell]; simp [Src.val]
      have BT := Lib.hid (HT.out j hjl)
      have t1 := HF.out (j + 1)
      rw [BT.out, List.length_append] at t1
      clear hcell hb
      generalize hx : l[j] = x at *
      obtain ⟨xa, xL, xc⟩ := x
      dsimp only at hcell' t1 BT
      clear hx
      generalize hy : (flatS (l.take j)).length = y at *
      generalize hz : xL.length = z at *
      go_wp2_with fail
      go_round
      case rel => exact ⟨j + 1, by omega, by go_num, by rw [BT.out, List.length_append, hy, hz]; go_num⟩
      case measure => simp [intOf]; omega
    · obtain rfl : j = m := by omega
      have hji : ¬ (j : Int) < (j : Int) := by omega
      have t1 := HF.out j
      have hyb : Hid (flatS (l.take j) = flatS l) := Lib.hid (by rw [List.take_of_length_le (by omega)])
      go_wp2_with fail
      refine (G.out _ w t1).mono ?_
      rintro e w1 ⟨⟨v0, rfl, hv0⟩, b1⟩
      have B0 := Lib.hid b1
      have O0 := Lib.hid hv0
      clear b1 hv0 t1
      go_wp2_with fail
      go_loopw [6, 27] (fun v i wr => ∃ k : Nat, k ≤ j ∧ i = .int .i64 (k : Int) ∧ wr.ownsRow w.heap.size 27 1 v (flatS (l.take k)).length (flatS (l.take k)) ∧ Below w.heap.size w wr) (fun _ i _ => j + 1 - (intOf i).toNat)
      case atStart => exact ⟨0, Nat.zero_le _, rfl, O0.out, B0.out⟩
      case round =>
        obtain ⟨k, hk, rfl, hown, hbel⟩ := hrel
        by_cases hlt2 : k < j
        · have hki : (k : Int) < (j : Int) := by omega
          have hkl : k < l.length := by omega
          have HB := Lib.hid hbel
          obtain ⟨b, off, rfl, hb, hcell⟩ := (HL.out.below hbel).at k (by simpa using hkl)
          have hcell' : wr.cell? ⟨b, off + k, none⟩ = some (.slice l[k].a l[k].L.length l[k].c) := by rw [hcell]; simp [Src.val]
          have BT := Lib.hid (HT.out k hkl)
          have t1 := HF.out (k + 1)
          rw [BT.out, List.length_append] at t1
          obtain ⟨v', w5, hap, hown', hgr⟩ := APP.out wr _ _ _ hown l[k].a l[k].L l[k].c ((HS.out _ (List.getElem_mem hkl)).below hbel) (H1.out _ (List.getElem_mem hkl)) (by unfold maxLen; omega) (by omega) hbel.size
          have O5 := Lib.hid hown'
          have B5 := Lib.hid (hbel.grown hgr hbel.size (fun q hq => (hown.lt q hq).1))
          have HA := Lib.hid hap
          clear hcell hb hap hown' hgr hown hbel HB
          go_wp2_with (at_builtin; refine Lib.wpList_append_run _ rfl _ _ _ _ rfl _ _ rfl rfl _ _ HA.out ?_)
          go_roundw
          case rel => exact ⟨k + 1, by omega, by go_num, by rw [BT.out, List.length_append]; exact O5.out, B5.out⟩
          case measure => simp [intOf]; omega
        · obtain rfl : k = j := by omega
          have hki : ¬ (k : Int) < (k : Int) := by omega
          have FIN : Hid (RowOut w.heap.size 27 (flatS l) (.returned _) wr ∧ Below w.heap.size w wr) := Lib.hid ⟨⟨_, rfl, by rw [← hyb.out]; exact hown⟩, hbel⟩
          clear hown hbel
          go_wp2_with fail
          go_ret
          exact FIN.out
set_option maxHeartbeats 800000 in
theorem glue_U (al : Option Addr) (cl : Nat) (l : List Src) (w : World) (hl : Rd w al (l.map Src.val)) (hs : ∀ s ∈ l, Rd w s.a s.L) (h1 : ∀ s ∈ l, ∀ u ∈ s.L, u.oneCell' = true) (hf : (flatS l).length ≤ 100000) (hm : l.length ≤ 1000) :
    Calls Try.prog 35 #[.slice al l.length cl] w fun e w' => RowOut w.heap.size 27 (flatS l) e w' ∧ Below w.heap.size w w' := by
  have C := Lib.hid (concat_U al cl l w hl hs h1 hf hm)
  obtain ⟨m, hm'⟩ : ∃ m, l.length = m := ⟨_, rfl⟩
  rw [hm'] at C ⊢
  clear hl hs h1 hf
  go_enter Try.func35, Try.ntmps35
  go_wp2_with fail
  refine C.out.mono ?_
  rintro e w1 ⟨⟨v0, rfl, hv0⟩, b1⟩
  have O0 := Lib.hid hv0
  clear hv0
  go_wp2_with fail
  go_ret
  exact ⟨⟨_, rfl, O0.out⟩, b1⟩
set_option maxHeartbeats 1600000 in
set_option maxRecDepth 20000 in
theorem concat_S (al : Option Addr) (cl : Nat) (l : List Src) (w : World) (hl : Rd w al (l.map Src.val)) (hs : ∀ s ∈ l, Rd w s.a s.L) (h1 : ∀ s ∈ l, ∀ u ∈ s.L, u.oneCell' = true) (hf : (flatS l).length ≤ 100000) (hm : l.length ≤ 1000) :
    Calls Try.prog 55 #[.slice al l.length cl] w fun e w' => RowOut w.heap.size 9 (flatS l) e w' ∧ Below w.heap.size w w' := by
  obtain ⟨i0, hi, hz0, hz1, hz2⟩ := info_parts info_S
  have HL := Lib.hid hl
  have HS := Lib.hid hs
  have H1 := Lib.hid h1
  have HT := Lib.hid (flatS_take l)
  have HF := Lib.hid (fun j => Nat.le_trans (flatS_le l j) hf)
  have F0 : Hid ((flatS (l.take 0)).length = 0) := Lib.hid rfl
  have G := Lib.hid (fun n w (h : n ≤ 100000) => grow_S n w h)
  have APP := Lib.hid (fun (wr : World) v n xs hown a L c hr h1 h63 hb hbase => append_rd (P := Try.prog) wr w.heap.size 23 23 9 i0 (.string ByteArray.empty) 16 Try.underlying23 hi hz0 hz1 hz2 rfl v n xs hown a L c hr h1 h63 hb hbase)
  obtain ⟨m, hm'⟩ : ∃ m, l.length = m := ⟨_, rfl⟩
  rw [hm'] at hm ⊢
  clear hl hs h1 hf hi hz0 hz1 hz2
  go_enter Try.func55, Try.ntmps55
  go_wp2_with fail
  go_loop [3, 11] (fun s i => ∃ j : Nat, j ≤ m ∧ i = .int .i64 (j : Int) ∧ s = .int .i64 ((flatS (l.take j)).length : Int)) (fun _ i => m + 1 - (intOf i).toNat)
  case atStart => exact ⟨0, Nat.zero_le _, rfl, by rw [F0.out]; rfl⟩
  case round =>
    obtain ⟨j, hj, rfl, rfl⟩ := hrel
    by_cases hlt : j < m
    · have hji : (j : Int) < (m : Int) := by omega
      have hjl : j < l.length := by omega
      obtain ⟨b, off, rfl, hb, hcell⟩ := HL.out.at j (by simpa using hjl)
      have hcell' : w.cell? ⟨b, off + j, none⟩ = some (.slice l[j].a l[j].L.length l[j].c) := by rw [hcell]; simp [Src.val]
      have BT := Lib.hid (HT.out j hjl)
      have t1 := HF.out (j + 1)
      rw [BT.out, List.length_append] at t1
      clear hcell hb
      generalize hx : l[j] = x at *
      obtain ⟨xa, xL, xc⟩ := x
      dsimp only at hcell' t1 BT
      clear hx
      generalize hy : (flatS (l.take j)).length = y at *
      generalize hz : xL.length = z at *
      go_wp2_with fail
      go_round
      case rel => exact ⟨j + 1, by omega, by go_num, by rw [BT.out, List.length_append, hy, hz]; go_num⟩
      case measure => simp [intOf]; omega
    · obtain rfl : j = m := by omega
      have hji : ¬ (j : Int) < (j : Int) := by omega
      have t1 := HF.out j
      have hyb : Hid (flatS (l.take j) = flatS l) := Lib.hid (by rw [List.take_of_length_le (by omega)])
      go_wp2_with fail
      refine (G.out _ w t1).mono ?_
      rintro e w1 ⟨⟨v0, rfl, hv0⟩, b1⟩
      have B0 := Lib.hid b1
      have O0 := Lib.hid hv0
      clear b1 hv0 t1
      go_wp2_with fail
      go_loopw [6, 27] (fun v i wr => ∃ k : Nat, k ≤ j ∧ i = .int .i64 (k : Int) ∧ wr.ownsRow w.heap.size 9 1 v (flatS (l.take k)).length (flatS (l.take k)) ∧ Below w.heap.size w wr) (fun _ i _ => j + 1 - (intOf i).toNat)
      case atStart => exact ⟨0, Nat.zero_le _, rfl, O0.out, B0.out⟩
      case round =>
        obtain ⟨k, hk, rfl, hown, hbel⟩ := hrel
        by_cases hlt2 : k < j
        · have hki : (k : Int) < (j : Int) := by omega
          have hkl : k < l.length := by omega
          have HB := Lib.hid hbel
          obtain ⟨b, off, rfl, hb, hcell⟩ := (HL.out.below hbel).at k (by simpa using hkl)
          have hcell' : wr.cell? ⟨b, off + k, none⟩ = some (.slice l[k].a l[k].L.length l[k].c) := by rw [hcell]; simp [Src.val]
          have BT := Lib.hid (HT.out k hkl)
          have t1 := HF.out (k + 1)
          rw [BT.out, List.length_append] at t1
          obtain ⟨v', w5, hap, hown', hgr⟩ := APP.out wr _ _ _ hown l[k].a l[k].L l[k].c ((HS.out _ (List.getElem_mem hkl)).below hbel) (H1.out _ (List.getElem_mem hkl)) (by unfold maxLen; omega) (by omega) hbel.size
          have O5 := Lib.hid hown'
          have B5 := Lib.hid (hbel.grown hgr hbel.size (fun q hq => (hown.lt q hq).1))
          have HA := Lib.hid hap
          clear hcell hb hap hown' hgr hown hbel HB
          go_wp2_with (at_builtin; refine Lib.wpList_append_run _ rfl _ _ _ _ rfl _ _ rfl rfl _ _ HA.out ?_)
          go_roundw
          case rel => exact ⟨k + 1, by omega, by go_num, by rw [BT.out, List.length_append]; exact O5.out, B5.out⟩
          case measure => simp [intOf]; omega
        · obtain rfl : k = j := by omega
          have hki : ¬ (k : Int) < (k : Int) := by omega
          have FIN : Hid (RowOut w.heap.size 9 (flatS l) (.returned _) wr ∧ Below w.heap.size w wr) := Lib.hid ⟨⟨_, rfl, by rw [← hyb.out]; exact hown⟩, hbel⟩
          clear hown hbel
          go_wp2_with fail
          go_ret
          exact FIN.out
set_option maxHeartbeats 800000 in
theorem glue_S (al : Option Addr) (cl : Nat) (l : List Src) (w : World) (hl : Rd w al (l.map Src.val)) (hs : ∀ s ∈ l, Rd w s.a s.L) (h1 : ∀ s ∈ l, ∀ u ∈ s.L, u.oneCell' = true) (hf : (flatS l).length ≤ 100000) (hm : l.length ≤ 1000) :
    Calls Try.prog 36 #[.slice al l.length cl] w fun e w' => RowOut w.heap.size 9 (flatS l) e w' ∧ Below w.heap.size w w' := by
  have C := Lib.hid (concat_S al cl l w hl hs h1 hf hm)
  obtain ⟨m, hm'⟩ : ∃ m, l.length = m := ⟨_, rfl⟩
  rw [hm'] at C ⊢
  clear hl hs h1 hf
  go_enter Try.func36, Try.ntmps36
  go_wp2_with fail
  refine C.out.mono ?_
  rintro e w1 ⟨⟨v0, rfl, hv0⟩, b1⟩
  have O0 := Lib.hid hv0
  clear hv0
  go_wp2_with fail
  go_ret
  exact ⟨⟨_, rfl, O0.out⟩, b1⟩
set_option maxHeartbeats 1600000 in
set_option maxRecDepth 20000 in
theorem concat_I (al : Option Addr) (cl : Nat) (l : List Src) (w : World) (hl : Rd w al (l.map Src.val)) (hs : ∀ s ∈ l, Rd w s.a s.L) (h1 : ∀ s ∈ l, ∀ u ∈ s.L, u.oneCell' = true) (hf : (flatS l).length ≤ 100000) (hm : l.length ≤ 1000) :
    Calls Try.prog 56 #[.slice al l.length cl] w fun e w' => RowOut w.heap.size 3 (flatS l) e w' ∧ Below w.heap.size w w' := by
  obtain ⟨i0, hi, hz0, hz1, hz2⟩ := info_parts info_I
  have HL := Lib.hid hl
  have HS := Lib.hid hs
  have H1 := Lib.hid h1
  have HT := Lib.hid (flatS_take l)
  have HF := Lib.hid (fun j => Nat.le_trans (flatS_le l j) hf)
  have F0 : Hid ((flatS (l.take 0)).length = 0) := Lib.hid rfl
  have G := Lib.hid (fun n w (h : n ≤ 100000) => grow_I n w h)
  have APP := Lib.hid (fun (wr : World) v n xs hown a L c hr h1 h63 hb hbase => append_rd (P := Try.prog) wr w.heap.size 24 24 3 i0 (.int .i64 0) 8 Try.underlying24 hi hz0 hz1 hz2 rfl v n xs hown a L c hr h1 h63 hb hbase)
  obtain ⟨m, hm'⟩ : ∃ m, l.length = m := ⟨_, rfl⟩
  rw [hm'] at hm ⊢
  clear hl hs h1 hf hi hz0 hz1 hz2
  go_enter Try.func56, Try.ntmps56
  go_wp2_with fail
  go_loop [3, 11] (fun s i => ∃ j : Nat, j ≤ m ∧ i = .int .i64 (j : Int) ∧ s = .int .i64 ((flatS (l.take j)).length : Int)) (fun _ i => m + 1 - (intOf i).toNat)
  case atStart => exact ⟨0, Nat.zero_le _, rfl, by rw [F0.out]; rfl⟩
  case round =>
    obtain ⟨j, hj, rfl, rfl⟩ := hrel
    by_cases hlt : j < m
    · have hji : (j : Int) < (m : Int) := by omega
      have hjl : j < l.length := by omega
      obtain ⟨b, off, rfl, hb, hcell⟩ := HL.out.at j (by simpa using hjl)
      have hcell' : w.cell? ⟨b, off + j, none⟩ = some (.slice l[j].a l[j].L.length l[j].c) := by rw [hcell]; simp [Src.val]
      have BT := Lib.hid (HT.out j hjl)
      have t1 := HF.out (j + 1)
      rw [BT.out, List.length_append] at t1
      clear hcell hb
      generalize hx : l[j] = x at *
      obtain ⟨xa, xL, xc⟩ := x
      dsimp only at hcell' t1 BT
      clear hx
      generalize hy : (flatS (l.take j)).length = y at *
      generalize hz : xL.length = z at *
      go_wp2_with fail
      go_round
      case rel => exact ⟨j + 1, by omega, by go_num, by rw [BT.out, List.length_append, hy, hz]; go_num⟩
      case measure => simp [intOf]; omega
    · obtain rfl : j = m := by omega
      have hji : ¬ (j : Int) < (j : Int) := by omega
      have t1 := HF.out j
      have hyb : Hid (flatS (l.take j) = flatS l) := Lib.hid (by rw [List.take_of_length_le (by omega)])
      go_wp2_with fail
      refine (G.out _ w t1).mono ?_
      rintro e w1 ⟨⟨v0, rfl, hv0⟩, b1⟩
      have B0 := Lib.hid b1
      have O0 := Lib.hid hv0
      clear b1 hv0 t1
      go_wp2_with fail
      go_loopw [6, 27] (fun v i wr => ∃ k : Nat, k ≤ j ∧ i = .int .i64 (k : Int) ∧ wr.ownsRow w.heap.size 3 1 v (flatS (l.take k)).length (flatS (l.take k)) ∧ Below w.heap.size w wr) (fun _ i _ => j + 1 - (intOf i).toNat)
      case atStart => exact ⟨0, Nat.zero_le _, rfl, O0.out, B0.out⟩
      case round =>
        obtain ⟨k, hk, rfl, hown, hbel⟩ := hrel
        by_cases hlt2 : k < j
        · have hki : (k : Int) < (j : Int) := by omega
          have hkl : k < l.length := by omega
          have HB := Lib.hid hbel
          obtain ⟨b, off, rfl, hb, hcell⟩ := (HL.out.below hbel).at k (by simpa using hkl)
          have hcell' : wr.cell? ⟨b, off + k, none⟩ = some (.slice l[k].a l[k].L.length l[k].c) := by rw [hcell]; simp [Src.val]
          have BT := Lib.hid (HT.out k hkl)
          have t1 := HF.out (k + 1)
          rw [BT.out, List.length_append] at t1
          obtain ⟨v', w5, hap, hown', hgr⟩ := APP.out wr _ _ _ hown l[k].a l[k].L l[k].c ((HS.out _ (List.getElem_mem hkl)).below hbel) (H1.out _ (List.getElem_mem hkl)) (by unfold maxLen; omega) (by omega) hbel.size
          have O5 := Lib.hid hown'
          have B5 := Lib.hid (hbel.grown hgr hbel.size (fun q hq => (hown.lt q hq).1))
          have HA := Lib.hid hap
          clear hcell hb hap hown' hgr hown hbel HB
          go_wp2_with (at_builtin; refine Lib.wpList_append_run _ rfl _ _ _ _ rfl _ _ rfl rfl _ _ HA.out ?_)
          go_roundw
          case rel => exact ⟨k + 1, by omega, by go_num, by rw [BT.out, List.length_append]; exact O5.out, B5.out⟩
          case measure => simp [intOf]; omega
        · obtain rfl : k = j := by omega
          have hki : ¬ (k : Int) < (k : Int) := by omega
          have FIN : Hid (RowOut w.heap.size 3 (flatS l) (.returned _) wr ∧ Below w.heap.size w wr) := Lib.hid ⟨⟨_, rfl, by rw [← hyb.out]; exact hown⟩, hbel⟩
          clear hown hbel
          go_wp2_with fail
          go_ret
          exact FIN.out
set_option maxHeartbeats 800000 in
theorem glue_I (al : Option Addr) (cl : Nat) (l : List Src) (w : World) (hl : Rd w al (l.map Src.val)) (hs : ∀ s ∈ l, Rd w s.a s.L) (h1 : ∀ s ∈ l, ∀ u ∈ s.L, u.oneCell' = true) (hf : (flatS l).length ≤ 100000) (hm : l.length ≤ 1000) :
    Calls Try.prog 37 #[.slice al l.length cl] w fun e w' => RowOut w.heap.size 3 (flatS l) e w' ∧ Below w.heap.size w w' := by
  have C := Lib.hid (concat_I al cl l w hl hs h1 hf hm)
  obtain ⟨m, hm'⟩ : ∃ m, l.length = m := ⟨_, rfl⟩
  rw [hm'] at C ⊢
  clear hl hs h1 hf
  go_enter Try.func37, Try.ntmps37
  go_wp2_with fail
  refine C.out.mono ?_
  rintro e w1 ⟨⟨v0, rfl, hv0⟩, b1⟩
  have O0 := Lib.hid hv0
  clear hv0
  go_wp2_with fail
  go_ret
  exact ⟨⟨_, rfl, O0.out⟩, b1⟩
end Go.Proofs.Ytkdcoipbdkmieaa
