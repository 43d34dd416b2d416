/-
  A disk: New.
-/
import Derived.Test.YtbjmbndeaobbeaaDoorDkW
namespace Go.Proofs.YtbjmbndeaobbeaaDoor
open Go.RowKit
set_option linter.unusedVariables false
set_option linter.unusedSimpArgs false
def DkS.fresh (n : Nat) : DkS := { S := List.replicate n zs, L := [], fuse := -1, up := true }
theorem fresh_ok (n : Nat) (h8 : 8 ≤ n) (h : n ≤ 640) : (DkS.fresh n).Ok := by
  refine { lens := ?_, had := by simp [DkS.fresh], keys := by simp [DkS.fresh], few := by simpa [DkS.fresh] using h, least := by simpa [DkS.fresh] using h8, fuse0 := by show (-9223372036854775808 : Int) ≤ -1; decide, fuse1 := by show (-1 : Int) ≤ 9223372036854775807; decide }
  intro s hs
  rw [(List.mem_replicate.1 hs).2]
  exact zs_len
/-- What New leaves: a disk of its own blocks. -/
def Made (w : World) (st : DkS) (e : Ending) (w' : World) : Prop := ∃ (d : Nat) (F : Nat → Prop), e = .returned (.tuple #[.pointer (some ⟨d, 0, none⟩), .int .i64 0]) ∧ Dk w' d st F ∧ Below w.heap.size w w' ∧ ∀ k, F k → w.heap.size ≤ k
theorem zs_zero (b : UInt8) (hb : b ∈ zs) : b = 0 := by
  unfold zs at hb
  exact (List.mem_replicate.1 hb).2
theorem made_sectors (w : World) (n : Nat) (hn : n ≤ 640) : ∃ w2, (Instr.makeSlice 49 (.int .i64 (n : Int)) (.int .i64 (n : Int))).run Tryd.prog w = .ok (.slice (some ⟨w.heap.size, 0, none⟩) n n) w2 ∧ Byt 66 w2 w.heap.size (List.replicate n zs).flatten ∧ w2 = w.alloc (.cells (By (List.replicate n zs).flatten) 66) := by
  have hz : (Tryd.prog.info? 66).map (fun i => (i.zero, i.size, i.bytes)) = some (some (.agg (By zs)), 256, 256) := by kernel_rfl
  cases hq : Tryd.prog.info? 66 with
  | none => rw [hq] at hz; cases hz
  | some i =>
    rw [hq] at hz
    simp only [Option.map_some, Option.some.injEq, Prod.mk.injEq] at hz
    obtain ⟨h1, h2, h3⟩ := hz
    have hr := run_make (P := Tryd.prog) w 49 66 i (.agg (By zs)) Tryd.underlying49 hq h1 .i64 .i64 (n : Int) (n : Int) (by omega) (by omega) (by rw [h3]; omega) (by omega)
    rw [Int.toNat_natCast, h2] at hr
    have e : madeCells (Value.agg (By zs)).cells (n * 256) = By (List.replicate n zs).flatten := by
      have hc : (Value.agg (By zs)).cells = By zs := rfl
      rw [hc]
      apply Array.ext
      · rw [size_madeCells, By_size, flat_len (S := List.replicate n zs) (fun s hs => by rw [(List.mem_replicate.1 hs).2]; exact zs_len), List.length_replicate]
        omega
      · intro j h1 h2
        have hb : ∀ b ∈ (List.replicate n zs).flatten, b = (0 : UInt8) := by
          intro b hb
          obtain ⟨s, hs, hbs⟩ := List.mem_flatten.1 hb
          rw [(List.mem_replicate.1 hs).2] at hbs
          exact zs_zero b hbs
        have hr : (By (List.replicate n zs).flatten)[j] = vb 0 := by
          simp only [By, List.getElem_toArray, List.getElem_map]
          rw [hb _ (List.getElem_mem _)]
        rw [hr]
        have hs : (By zs).size = 256 := by rw [By_size, zs_len]
        simp only [madeCells, Array.getElem_map, Array.getElem_range]
        have hlt : j % (By zs).size < (By zs).size := Nat.mod_lt _ (by omega)
        rw [getElem!_pos (By zs) _ hlt]
        simp only [By, List.getElem_toArray, List.getElem_map]
        rw [zs_zero _ (List.getElem_mem _)]
    rw [e] at hr
    exact ⟨_, hr, heap_alloc_new w _, rfl⟩
set_option maxHeartbeats 800000 in
set_option maxRecDepth 20000 in
theorem new_yes (w : World) (n : Nat) (h8 : 8 ≤ n) (hn : n ≤ 640) :
    Calls Tryd.prog 24 #[.int .i64 (n : Int)] w (Made w (DkS.fresh n)) := by
  obtain ⟨w2, hmk, hrow, hw2⟩ := made_sectors w n hn
  have hsz : w2.heap.size = w.heap.size + 1 := by rw [hw2]; simp
  have hb : Below w.heap.size w w2 := by rw [hw2]; exact (Below.refl _ _).alloc (Nat.le_refl _) _
  have FIN : Hid (Made w (DkS.fresh n) (.returned (.tuple #[.pointer (some ⟨w.heap.size + 2, 0, none⟩), .int .i64 0])) ((w2.alloc (.map #[] 0)).alloc (.cells #[.slice (some ⟨w.heap.size, 0, none⟩) n n, .slice none 0 0, .map (some (w.heap.size + 1)), .int .i64 (-1), .bool true] 52))) := Lib.hid (by
    refine ⟨w.heap.size + 2, DkF (w.heap.size + 2) w.heap.size (w.heap.size + 1) (.slice none 0 0), rfl, ⟨w.heap.size, w.heap.size + 1, .slice none 0 0, ?_, fun k => Iff.rfl⟩, ?_, ?_⟩
    · have s3 : (w2.alloc (.map #[] 0)).heap.size = w.heap.size + 2 := by simp [hsz]
      refine { cell := ?_, secs := ?_, mp := ?_, loose := World.ownsRow_nil _ _ _ _, dg := by omega, dm := by omega, gm := by omega, lvd := by simp [Value.ownBlock], lvg := by simp [Value.ownBlock], lvm := by simp [Value.ownBlock], ok := fresh_ok n h8 hn }
      · have := heap_alloc_new (w2.alloc (.map #[] 0)) (.cells #[.slice (some ⟨w.heap.size, 0, none⟩) n n, .slice none 0 0, .map (some (w.heap.size + 1)), .int .i64 (-1), .bool true] 52)
        rw [s3] at this
        rw [this]
        simp [DkS.fresh]
      · unfold Byt
        rw [Below.heap_alloc _ _ _ (by omega), Below.heap_alloc _ _ _ (by omega)]
        exact hrow
      · refine ⟨#[], 0, ?_, rfl⟩
        rw [Below.heap_alloc _ _ _ (by omega)]
        have := heap_alloc_new w2 (.map #[] 0)
        rwa [hsz] at this
    · exact (hb.alloc hb.size _).alloc (by simp [hsz]; omega) _
    · rintro k (h | h | h | h)
      · omega
      · omega
      · omega
      · simp [Value.ownBlock] at h)
  have hmm : (Instr.makeMap 50 none).run Tryd.prog w2 = .ok (.map (some (w.heap.size + 1))) (w2.alloc (.map #[] 0)) := by
    have : (Instr.makeMap 50 none).run Tryd.prog w2 = .ok (.map (some w2.heap.size)) (w2.alloc (.map #[] 0)) := by simp [Instr.makeMap]
    rw [this, hsz]
  have s3 : (w2.alloc (.map #[] 0)).heap.size = w.heap.size + 2 := by simp [hsz]
  have hni : (n : Int) ≤ 640 := by omega
  have hn8 : 8 ≤ (n : Int) := by omega
  clear hw2 hb hrow
  go_enter Tryd.func24, Tryd.ntmps24
  go_wp2_with fail
  go_ret2
  exact FIN.out
set_option maxHeartbeats 400000 in
theorem new_no (w : World) (n : Int) (h : n < 8 ∨ 640 < n) :
    Calls Tryd.prog 24 #[.int .i64 n] w fun e w' => e = .returned (.tuple #[.pointer none, .int .i64 1]) ∧ w = w' := by
  rcases h with h | h
  all_goals
    go_enter Tryd.func24, Tryd.ntmps24
    go_wp2_with fail
    go_ret2
    exact ⟨rfl, rfl⟩
end Go.Proofs.YtbjmbndeaobbeaaDoor
