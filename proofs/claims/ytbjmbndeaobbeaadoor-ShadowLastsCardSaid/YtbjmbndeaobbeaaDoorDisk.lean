/-
  A disk in memory; what its methods answer, and what becomes of it.
-/
import Derived.Test.YtbjmbndeaobbeaaDoorSect
import Derived.Test.YtbjmbndeaobbeaaDoorMapInts
import Derived.StillTailTactics
import Derived.Outline
namespace Go.Proofs.YtbjmbndeaobbeaaDoor
open Go.RowKit
set_option linter.unusedVariables false
set_option linter.unusedSimpArgs false
/-- A disk: its sectors, the loose ones with what they had, its fuse; is there power? -/
structure DkS where
  S : List (List UInt8)
  L : List (Nat × List UInt8)
  fuse : Int
  up : Bool
/-- What a disk is, apart from memory. -/
structure DkS.Ok (st : DkS) : Prop where
  lens : ∀ s ∈ st.S, s.length = 256
  had : ∀ p ∈ st.L, p.1 < st.S.length ∧ p.2.length = 256
  keys : (st.L.map (·.1)).Nodup
  few : st.S.length ≤ 640
  least : 8 ≤ st.S.length
  fuse0 : -9223372036854775808 ≤ st.fuse
  fuse1 : st.fuse ≤ 9223372036854775807
theorem nodup_le : ∀ (n : Nat) (l : List Nat), l.Nodup → (∀ x ∈ l, x < n) → l.length ≤ n
  | 0, l, _, h => by
    cases l with
    | nil => simp
    | cons a l => exact absurd (h a (List.mem_cons_self ..)) (by omega)
  | n + 1, l, hd, h => by
    have h1 : (l.erase n).length ≤ n := nodup_le n (l.erase n) (hd.erase n) (fun x hx => by
      have h2 := h x (List.mem_of_mem_erase hx)
      have h3 : x ≠ n := fun e => by rw [e] at hx; exact hd.not_mem_erase hx
      omega)
    have := List.length_erase_le (a := n) (l := l)
    by_cases hm : n ∈ l
    · rw [List.length_erase_of_mem hm] at h1; omega
    · rw [List.erase_of_not_mem hm] at h1; omega
theorem DkS.Ok.loose_le {st : DkS} (h : st.Ok) : st.L.length ≤ 640 := by
  have := nodup_le st.S.length _ h.keys (fun x hx => by
    obtain ⟨p, hp, rfl⟩ := List.mem_map.1 hx
    exact (h.had p hp).1)
  rw [List.length_map] at this
  have := h.few
  omega
/-- The disk's blocks: its own, its sectors', its map's; its row of loose numbers. -/
structure DkIn (w : World) (d g m : Nat) (lv : Value) (st : DkS) : Prop where
  cell : w.heap[d]? = some (.cells #[.slice (some ⟨g, 0, none⟩) st.S.length st.S.length, lv, .map (some m), .int .i64 st.fuse, .bool st.up] 52 (0, 0))
  secs : Byt 66 w g st.S.flatten
  mp : MapI w m (st.L.map fun p => (p.1, .agg (By p.2)))
  loose : w.ownsRow 0 3 1 lv st.L.length (st.L.map fun p => .int .i64 (p.1 : Int))
  dg : d ≠ g
  dm : d ≠ m
  gm : g ≠ m
  lvd : lv.ownBlock ≠ some d
  lvg : lv.ownBlock ≠ some g
  lvm : lv.ownBlock ≠ some m
  ok : st.Ok
def DkF (d g m : Nat) (lv : Value) (k : Nat) : Prop := k = d ∨ k = g ∨ k = m ∨ lv.ownBlock = some k
/-- Where the power goes, what stands loose: the disk d in memory, with a footprint. -/
def Dk (w : World) (d : Nat) (st : DkS) (F : Nat → Prop) : Prop := ∃ g m lv, DkIn w d g m lv st ∧ ∀ k, F k ↔ DkF d g m lv k
theorem DkIn.lt {w : World} {d g m : Nat} {lv : Value} {st : DkS} (h : DkIn w d g m lv st) (k : Nat) (hk : DkF d g m lv k) : k < w.heap.size := by
  rcases hk with rfl | rfl | rfl | hk
  · exact (Array.getElem?_eq_some_iff.1 h.cell).1
  · exact h.secs.lt
  · exact h.mp.lt
  · exact (h.loose.lt k hk).2
theorem DkIn.kept {w w' : World} {d g m : Nat} {lv : Value} {st : DkS} (h : DkIn w d g m lv st) (hk : ∀ k, DkF d g m lv k → w'.heap[k]? = w.heap[k]?) : DkIn w' d g m lv st :=
  { h with
    cell := (hk d (.inl rfl)).trans h.cell
    secs := (hk g (.inr (.inl rfl))).trans h.secs
    mp := h.mp.kept (hk m (.inr (.inr (.inl rfl))))
    loose := by
      refine ⟨h.loose.1, ?_⟩
      rcases h.loose.2 with h1 | ⟨b, cap, cur, h1, h2, h3, h4⟩
      · exact .inl h1
      · exact .inr ⟨b, cap, cur, h1, h2, (hk b (.inr (.inr (.inr (by rw [h1]; rfl))))).trans h3, h4⟩ }
theorem Dk.frm {w w' : World} {d : Nat} {st : DkS} {F G : Nat → Prop} (h : Dk w d st F) (hf : Frm G w w') (hd : ∀ k, F k → ¬ G k) : Dk w' d st F := by
  obtain ⟨g, m, lv, hi, he⟩ := h
  exact ⟨g, m, lv, hi.kept fun k hk => hf.block k (hi.lt k hk) (hd k ((he k).2 hk)), he⟩
theorem Dk.below {w w' : World} {d : Nat} {st : DkS} {F : Nat → Prop} (h : Dk w d st F) (hb : Below w.heap.size w w') : Dk w' d st F :=
  h.frm (G := fun _ => False) (Frm.of_below hb) fun _ _ hx => hx
theorem Dk.lt {w : World} {d : Nat} {st : DkS} {F : Nat → Prop} (h : Dk w d st F) (k : Nat) (hk : F k) : k < w.heap.size := by
  obtain ⟨g, m, lv, hi, he⟩ := h
  exact hi.lt k ((he k).1 hk)
theorem Dk.ok {w : World} {d : Nat} {st : DkS} {F : Nat → Prop} (h : Dk w d st F) : st.Ok := by
  obtain ⟨g, m, lv, hi, he⟩ := h
  exact hi.ok
/-- What a call on a disk leaves: the disk, as it is told; all else as it was. -/
def DkPost (w : World) (d : Nat) (st : DkS) (F : Nat → Prop) (w' : World) : Prop := ∃ F', Dk w' d st F' ∧ Frm F w w' ∧ ∀ k, F' k → F k ∨ w.heap.size ≤ k
theorem DkIn.cells {w : World} {d g m : Nat} {lv : Value} {st : DkS} (h : DkIn w d g m lv st) :
    w.cell? ⟨d, 0, none⟩ = some (.slice (some ⟨g, 0, none⟩) st.S.length st.S.length) ∧ w.cell? ⟨d, 1, none⟩ = some lv ∧ w.cell? ⟨d, 2, none⟩ = some (.map (some m)) ∧ w.cell? ⟨d, 3, none⟩ = some (.int .i64 st.fuse) ∧ w.cell? ⟨d, 4, none⟩ = some (.bool st.up) := by
  refine ⟨?_, ?_, ?_, ?_, ?_⟩ <;> (rw [cell_of_row w d _ _ _ _ h.cell]; rfl)
theorem DkIn.free {w : World} {d g m : Nat} {lv : Value} {st : DkS} (h : DkIn w d g m lv st) (j : Nat) : w.frozen? ⟨d, j, none⟩ = false := frozen_of_row w d j _ _ h.cell
set_option maxHeartbeats 400000 in
theorem has_is (w : World) (d : Nat) (st : DkS) (F : Nat → Prop) (h : Dk w d st F) (i : Int) (v : Bool) (hv : (decide (0 ≤ i) && decide (i < (st.S.length : Int))) = v) :
    Calls Tryd.prog 56 #[.pointer (some ⟨d, 0, none⟩), .int .i64 i] w fun e w' => e = .returned (.bool v) ∧ w = w' := by
  obtain ⟨g, m, lv, hi, he⟩ := h
  obtain ⟨c0, _, _, _, _⟩ := hi.cells
  have H := Lib.hid hv
  clear hv he hi
  by_cases h0 : 0 ≤ i
  all_goals
    go_enter Tryd.func56, Tryd.ntmps56
    go_wp2_with fail
    go_ret
    refine ⟨?_, rfl⟩
    rw [← H.out]
    exact ret_bool (by rw [Bool.eq_iff_iff]; simp; omega)
set_option maxHeartbeats 400000 in
theorem read_down (w : World) (d : Nat) (st : DkS) (F : Nat → Prop) (h : Dk w d st F) (i : Int) (hu : st.up = false) :
    Calls Tryd.prog 50 #[.pointer (some ⟨d, 0, none⟩), .int .i64 i] w fun e w' => e = .returned (.tuple #[.string ⟨#[]⟩, .int .i64 5]) ∧ w = w' := by
  obtain ⟨g, m, lv, hi, he⟩ := h
  obtain ⟨_, _, _, _, c4⟩ := hi.cells
  rw [hu] at c4
  clear hi he hu
  go_enter Tryd.func50, Tryd.ntmps50
  go_wp2_with fail
  go_ret2
  exact ⟨rfl, rfl⟩
set_option maxHeartbeats 400000 in
theorem read_no (w : World) (d : Nat) (st : DkS) (F : Nat → Prop) (h : Dk w d st F) (i : Int) (hu : st.up = true) (hn : (decide (0 ≤ i) && decide (i < (st.S.length : Int))) = false) :
    Calls Tryd.prog 50 #[.pointer (some ⟨d, 0, none⟩), .int .i64 i] w fun e w' => e = .returned (.tuple #[.string ⟨#[]⟩, .int .i64 1]) ∧ w = w' := by
  have HS := Lib.hid (has_is w d st F h i false hn)
  obtain ⟨g, m, lv, hi, he⟩ := h
  obtain ⟨_, _, _, _, c4⟩ := hi.cells
  rw [hu] at c4
  clear hi he hu hn
  go_enter Tryd.func50, Tryd.ntmps50
  go_wp2_with fail
  refine HS.out.mono ?_
  rintro e w1 ⟨rfl, rfl⟩
  go_wp2_with fail
  go_ret2
  exact ⟨rfl, rfl⟩
set_option maxHeartbeats 800000 in
theorem read_yes (w : World) (d : Nat) (st : DkS) (F : Nat → Prop) (h : Dk w d st F) (i : Nat) (hu : st.up = true) (hi : i < st.S.length) (s : ByteArray) (hs : Str (st.S[i]) = s) :
    Calls Tryd.prog 50 #[.pointer (some ⟨d, 0, none⟩), .int .i64 (i : Int)] w fun e w' => e = .returned (.tuple #[.string s, .int .i64 0]) ∧ w = w' := by
  have HS := Lib.hid (has_is w d st F h (i : Int) true (by simp; omega))
  have hz := h.ok.few
  obtain ⟨g, m, lv, hk, he⟩ := h
  obtain ⟨c0, _, _, _, c4⟩ := hk.cells
  rw [hu] at c4
  have hl := flat_len hk.ok.lens
  have hcv := hk.secs.conv_at (256 * i) 256 256 (by omega) _ (flat_get hk.ok.lens i hi)
  rw [hs, Nat.mul_comm 256 i] at hcv
  have hii : (i : Int) < (st.S.length : Int) := by omega
  clear hk he hu hs hl
  go_enter Tryd.func50, Tryd.ntmps50
  go_wp2_with fail
  refine HS.out.mono ?_
  rintro e w1 ⟨rfl, rfl⟩
  go_wp2_with fail
  go_ret2
  exact ⟨rfl, rfl⟩
/-- A sector of bytes 0. -/
def zs : List UInt8 := List.replicate 256 0
theorem zs_len : zs.length = 256 := by unfold zs; exact List.length_replicate
theorem zero_sector (w : World) : (zeroValue 66).run Tryd.prog w = .ok (.agg (By zs)) w := by kernel_rfl
theorem wpList_value {P : Program} {w w2 : World} {ops : Array Oper} {rest : List Oper} {o : Oper} {a : Act} {Q : Exit → Act → World → Prop} (hgd : o.guard = none) (v : Value) (hr : (execOp a.eval o).run P w = .ok (.value v) w2)
    (h : wpList P ops Q rest (a.put o.dst v) w2) : wpList P ops Q (o :: rest) a w := by
  refine wpList_plain hgd fun K hK => ?_
  unfold Oper.wp
  simp [hr]
  exact hK _ _ h
theorem alloc_sector {w : World} {ops : Array Oper} {rest : List Oper} {o : Oper} {a : Act} {Q : Exit → Act → World → Prop} (hgd : o.guard = none) (ho : o.op = .alloc 66)
    (h : wpList Tryd.prog ops Q rest (a.put o.dst (.pointer (some ⟨w.heap.size, 0, none⟩))) (w.alloc (.cells (By zs) 66))) : wpList Tryd.prog ops Q (o :: rest) a w := by
  refine wpList_value hgd _ ?_ h
  have hz := zero_sector w
  simp [execOp, ho, Instr.alloc, hz, newVar, newRow, Value.cells]
theorem append_run {P : Program} {w w' : World} {ops : Array Oper} {rest : List Oper} {o : Oper} {a : Act} {Q : Exit → Act → World → Prop} (hgd : o.guard = none) (s x : Operand) (t : TypeId)
    (ho : o.op = .call { callee := .builtin .append, args := #[s, x], argTypes := #[t, t] }) (v y v' : Value) (hs : a.eval s = v) (hx : a.eval x = y)
    (hr : (Builtin.append_ #[t, t] o.type #[v, y]).run P w = .ok v' w') (h : wpList P ops Q rest (a.put o.dst v') w') : wpList P ops Q (o :: rest) a w := by
  refine wpList_plain hgd fun K hK => ?_
  unfold Oper.wp
  simp [execOp, ho, resolve, invoke, builtin, hs, hx, hr, Result.andThen]
  refine hK _ _ ?_
  simpa using h
theorem load_still {w : World} {ops : Array Oper} {Q : Act → Prop} {rest : List Oper} {o : Oper} {a : Act} (hgd : o.guard = none) (x : Operand) (ho : o.op = .load 66 x)
    (g off : Nat) (hx : a.eval x = .pointer (some ⟨g, off, none⟩)) (l m : List UInt8) (T : TypeId) (hg : Byt T w g l) (hm : (l.drop off).take 256 = m) (hl : m.length = 256)
    (h : wpStill Tryd.prog ops w Q rest (a.put o.dst (.agg (By m)))) : wpStill Tryd.prog ops w Q (o :: rest) a := by
  have hld := hg.load_at off m hm hl
  unfold wpStill
  rw [if_pos (by simp [Region.wanted, hgd])]
  unfold Oper.still execOp
  simp only [ho, hx, Instr.loadAt, Instr.sureAddr, Sem.run_bind, Sem.run_pure, Result.andThen_ok, hld]
  exact ⟨rfl, h⟩
/-- What a call that answers nothing leaves behind. -/
def Void (R : World → Prop) (e : Ending) (w' : World) : Prop := e = .returned (.tuple #[]) ∧ R w'
/-- Cells of a sector are stored. -/
theorem stored {w : World} {g : Nat} {l : List UInt8} {T : TypeId} (h : Byt T w g l) (off : Nat) (m : List UInt8) (hm : m.length = 256) (hf : off + 256 ≤ l.length) :
    (storeCells ⟨g, off, none⟩ (By m).toList).run Tryd.prog w = .ok () (w.setRow g (By (l.take off ++ m ++ l.drop (off + 256)))) := by
  have hlen : (By m).toList.length = 256 := by simp [By, hm]
  have hst := run_storeCells_at Tryd.prog g off T (By m).toList 0 (By l) w h (by rw [hlen, By_size]; omega) (By_one m)
  rw [Nat.add_zero, hlen] at hst
  have e : ((By l).toList.take off ++ (By m).toList ++ (By l).toList.drop (off + 256)).toArray = By (l.take off ++ m ++ l.drop (off + 256)) := by
    apply Array.ext'
    simp only [By, List.map_append, List.map_take, List.map_drop]
  rw [e] at hst
  exact hst
theorem local_sector (w : World) (v : List UInt8) (hv : v.length = 256) : ∃ w2, (storeCells ⟨w.heap.size, 0, none⟩ (By v).toList).run Tryd.prog (w.alloc (.cells (By zs) 66)) = .ok () w2 ∧ Below w.heap.size w w2 := by
  have hrow : Byt 66 (w.alloc (.cells (By zs) 66)) w.heap.size zs := heap_alloc_new w _
  exact ⟨_, stored hrow 0 v hv (by rw [zs_len]; decide), below_setRow ((Below.refl _ _).alloc (Nat.le_refl _) _) (Nat.le_refl _) _⟩
set_option maxHeartbeats 800000 in
set_option maxRecDepth 20000 in
theorem loosen_old (w : World) (d : Nat) (st : DkS) (F : Nat → Prop) (h : Dk w d st F) (n : Nat) (v : List UInt8) (hm : (n, v) ∈ st.L) :
    Calls Tryd.prog 57 #[.pointer (some ⟨d, 0, none⟩), .int .i64 (n : Int)] w (Void fun w' => Below w.heap.size w w') := by
  obtain ⟨g, m, lv, hi, he⟩ := h
  obtain ⟨_, _, c2, _, _⟩ := hi.cells
  have hv : v.length = 256 := (hi.ok.had _ hm).2
  have hs2 : (By v).size = 256 := by rw [By_size, hv]
  have hlk := lookup_yes (P := Tryd.prog) Tryd.underlying50 Tryd.underlying3 hi.mp (by rw [List.map_map]; exact hi.ok.keys) n (.agg (By v)) (List.mem_map.2 ⟨_, hm, rfl⟩) true
  rw [if_pos rfl] at hlk
  obtain ⟨w2, hst, hb⟩ := local_sector w v hv
  clear hi he hm hv
  go_enter Tryd.func57, Tryd.ntmps57
  go_wp2_with (first | (with_reducible refine alloc_sector rfl rfl ?_))
  go_end0
  exact ⟨rfl, hb⟩
theorem DkIn.of_below {w w' : World} {d g m : Nat} {lv : Value} {st : DkS} (h : DkIn w d g m lv st) (hb : Below w.heap.size w w') : DkIn w' d g m lv st := h.kept fun k hk => hb.block k (h.lt k hk)
theorem own_slice {w : World} {e : TypeId} {v : Value} {n : Nat} {xs : List Value} (h : w.ownsRow 0 e 1 v (n + 1) xs) : ∃ k cap, v = .slice (some ⟨k, 0, none⟩) (n + 1) cap := by
  rcases h.2 with ⟨_, h0⟩ | ⟨g, cap, cur, h1, _⟩
  · omega
  · exact ⟨g, cap, h1⟩
theorem ownsRow_kept {w w' : World} {e : TypeId} {v : Value} {n : Nat} {xs : List Value} (h : w.ownsRow 0 e 1 v n xs) (hk : ∀ k, v.ownBlock = some k → w'.heap[k]? = w.heap[k]?) : w'.ownsRow 0 e 1 v n xs := by
  refine ⟨h.1, ?_⟩
  rcases h.2 with h1 | ⟨b, cap, cur, h1, h2, h3, h4⟩
  · exact .inl h1
  · exact .inr ⟨b, cap, cur, h1, h2, (hk b (by rw [h1]; rfl)).trans h3, h4⟩
set_option maxHeartbeats 1600000 in
set_option maxRecDepth 20000 in
theorem loosen_new (w : World) (d : Nat) (st : DkS) (F : Nat → Prop) (h : Dk w d st F) (n : Nat) (hn : n < st.S.length) (hf : ∀ p ∈ st.L, p.1 ≠ n) :
    Calls Tryd.prog 57 #[.pointer (some ⟨d, 0, none⟩), .int .i64 (n : Int)] w (Void (DkPost w d { st with L := st.L ++ [(n, st.S[n])] } F)) := by
  obtain ⟨g, m, lv, hi, he⟩ := h
  have hle := hi.ok.loose_le
  have hfew := hi.ok.few
  have hdl := hi.lt d (.inl rfl)
  obtain ⟨_, _, c2, _, _⟩ := hi.cells
  have hlk := lookup_no (P := Tryd.prog) Tryd.underlying50 Tryd.underlying3 hi.mp n (fun p hp => by
    obtain ⟨q, hq, rfl⟩ := List.mem_map.1 hp
    exact hf q hq) _ (zero_sector w) true
  rw [if_pos rfl] at hlk
  have hs2 : (By zs).size = 256 := by rw [By_size, zs_len]
  obtain ⟨w2, hst, hb⟩ := local_sector w zs zs_len
  -- region 2
  have hb2 : Below w.heap.size w w2.drew := hb.drew
  have hi2 := hi.of_below hb2
  obtain ⟨a0, _, a2, _, _⟩ := hi2.cells
  have hv : (st.S[n]).length = 256 := hi.ok.lens _ (List.getElem_mem hn)
  obtain ⟨o, hup, hmi⟩ := update_new (P := Tryd.prog) Tryd.underlying50 Tryd.underlying3 hi2.mp n (fun p hp => by
    obtain ⟨q, hq, rfl⟩ := List.mem_map.1 hp
    exact hf q hq) (.agg (By st.S[n]))
  have hfr3 : Frm (DkF d g m lv) w { w2.drew with heap := w2.drew.heap.setIfInBounds m o } := (Frm.of_below hb2).setObj m o (.inl (.inr (.inr (.inl rfl))))
  have hoth : ∀ k, k ≠ m → ({ w2.drew with heap := w2.drew.heap.setIfInBounds m o } : World).heap[k]? = w2.drew.heap[k]? := fun k hk => by
    show (w2.drew.heap.setIfInBounds m o)[k]? = _
    rw [Array.getElem?_setIfInBounds_ne (Ne.symm hk)]
  obtain ⟨w3, hw3⟩ : ∃ w3 : World, ({ w2.drew with heap := w2.drew.heap.setIfInBounds m o } : World) = w3 := ⟨_, rfl⟩
  rw [hw3] at hup hmi hfr3 hoth
  have hsz3 : w2.drew.heap.size ≤ w3.heap.size := by rw [← hw3]; simp
  have hi2s := hb2.size
  clear hw3
  -- region 3
  obtain ⟨w4, hw4⟩ : ∃ w4, w3.alloc (.cells #[.int .i64 (n : Int)] 3) = w4 := ⟨_, rfl⟩
  have h43 : ∀ k, k < w3.heap.size → w4.heap[k]? = w3.heap[k]? := fun k hk => by rw [← hw4]; exact Below.heap_alloc _ _ _ hk
  have hsz4 : w4.heap.size = w3.heap.size + 1 := by rw [← hw4]; simp
  have hu : w4.cell? ⟨w3.heap.size, 0, none⟩ = some (.int .i64 (n : Int)) := by rw [← hw4, World.cell?_alloc_new]; rfl
  have hlow : ∀ k, DkF d g m lv k → k < w.heap.size := fun k hk => hi.lt k hk
  have cell3 : w3.heap[d]? = _ := (hoth d hi.dm).trans hi2.cell
  have cell4 : w4.heap[d]? = _ := (h43 d (by omega)).trans cell3
  have loose4 : w4.ownsRow 0 3 1 lv st.L.length (st.L.map fun p => .int .i64 (p.1 : Int)) := ownsRow_kept hi2.loose fun k hk => by
    have hk2 : k < w.heap.size := hlow k (.inr (.inr (.inr hk)))
    rw [h43 k (by omega), hoth k (fun e => hi.lvm (by rw [hk, e]))]
  obtain ⟨i, hinfo, hz0, hz1, hz2⟩ : ∃ i, Tryd.prog.info? 3 = some i ∧ i.zero = some (.int .i64 0) ∧ i.size = 1 ∧ i.bytes = 8 := by
    have : (Tryd.prog.info? 3).map (fun i => (i.zero, i.size, i.bytes)) = some (some (.int .i64 0), 1, 8) := by kernel_rfl
    cases hq : Tryd.prog.info? 3 with
    | none => rw [hq] at this; cases this
    | some i =>
      rw [hq] at this
      simp only [Option.map_some, Option.some.injEq, Prod.mk.injEq] at this
      exact ⟨i, rfl, this.1, this.2.1, this.2.2⟩
  obtain ⟨v', w5, k, hap, hown, hgrow, hkb, hkc⟩ := append_one Tryd.prog w4 23 23 3 i _ Tryd.underlying23 hinfo hz0 hz1 hz2 rfl lv st.L.length _ loose4 w3.heap.size _ hu rfl (by omega)
  obtain ⟨k2, cap, hv'⟩ := own_slice hown
  have hk2 : k2 = k := by rw [hv'] at hkb; exact Option.some.inj hkb
  subst hk2
  have hkd : k2 ≠ d := by
    rcases hkc with h1 | h1
    · intro e; exact hi.lvd (by rw [h1, e])
    · omega
  have cell5 : w5.heap[d]? = _ := (hgrow.block d (by omega) (fun e => hi.lvd e.symm)).trans cell4
  have c51 : w5.cell? ⟨d, 1, none⟩ = some lv := by rw [cell_of_row w5 d 1 _ _ _ cell5]; rfl
  have f51 : w5.frozen? ⟨d, 1, none⟩ = false := frozen_of_row w5 d 1 _ _ cell5
  have c41 : w4.cell? ⟨d, 1, none⟩ = some lv := by rw [cell_of_row w4 d 1 _ _ _ cell4]; rfl
  have c31 : w3.cell? ⟨d, 1, none⟩ = some lv := by rw [cell_of_row w3 d 1 _ _ _ cell3]; rfl
  have hkg : k2 ≠ g := by
    rcases hkc with h1 | h1
    · intro e; exact hi.lvg (by rw [h1, e])
    · have := hlow g (.inr (.inl rfl)); omega
  have hkm : k2 ≠ m := by
    rcases hkc with h1 | h1
    · intro e; exact hi.lvm (by rw [h1, e])
    · have := hlow m (.inr (.inr (.inl rfl))); omega
  have hgl := hlow g (.inr (.inl rfl))
  have hml := hlow m (.inr (.inr (.inl rfl)))
  have FIN : Hid (DkPost w d { st with L := st.L ++ [(n, st.S[n])] } F (w5.setCell ⟨d, 1, none⟩ v')) := Lib.hid (by
    refine ⟨DkF d g m v', ⟨g, m, v', ?_, fun k => Iff.rfl⟩, ?_, ?_⟩
    · refine { cell := ?_, secs := ?_, mp := ?_, loose := ?_, dg := hi.dg, dm := hi.dm, gm := hi.gm, lvd := ?_, lvg := ?_, lvm := ?_, ok := ?_ }
      · rw [heap_setCell_same w5 d 1 _ _ _ cell5]
        rfl
      · unfold Byt
        rw [heap_setCell_other _ _ g _ (Ne.symm hi.dg), hgrow.block g (by omega) (fun e => hi.lvg e.symm), h43 g (by omega), hoth g hi.gm]
        exact hi2.secs
      · have : MapI (w5.setCell ⟨d, 1, none⟩ v') m ((st.L.map fun p => (p.1, Value.agg (By p.2))) ++ [(n, .agg (By st.S[n]))]) := hmi.kept (by
          rw [heap_setCell_other _ _ m _ (Ne.symm hi.dm), hgrow.block m (by omega) (fun e => hi.lvm e.symm), h43 m (by omega)])
        simpa using this
      · have := ownsRow_kept (w' := w5.setCell ⟨d, 1, none⟩ v') hown fun j hj => by
          rw [hkb] at hj
          injection hj with hj
          exact heap_setCell_other _ _ j _ (by rw [← hj]; exact hkd)
        simpa using this
      · rw [hkb]; intro e; injection e with e; exact hkd e
      · rw [hkb]; intro e; injection e with e; exact hkg e
      · rw [hkb]; intro e; injection e with e; exact hkm e
      · refine { lens := hi.ok.lens, had := ?_, keys := ?_, few := hi.ok.few, least := hi.ok.least, fuse0 := hi.ok.fuse0, fuse1 := hi.ok.fuse1 }
        · intro p hp
          rcases List.mem_append.1 hp with h1 | h1
          · exact hi.ok.had p h1
          · obtain rfl := List.mem_singleton.1 h1
            exact ⟨hn, hv⟩
        · show ((st.L ++ [(n, st.S[n])]).map (·.1)).Nodup
          rw [List.map_append, List.nodup_append]
          refine ⟨hi.ok.keys, by simp, ?_⟩
          intro x hx y hy
          obtain ⟨p, hp, rfl⟩ := List.mem_map.1 hx
          simp at hy
          rw [hy]
          exact hf p hp
    · have h1 : Frm (DkF d g m lv) w w4 := by rw [← hw4]; exact hfr3.alloc _
      have h2 := (h1.grown hgrow (fun j hj => .inl (.inr (.inr (.inr hj))))).setCell ⟨d, 1, none⟩ v' (.inl (.inl rfl))
      exact h2.mono fun j hj => (he j).2 hj
    · intro j hj
      rcases hj with rfl | rfl | rfl | hj
      · exact .inl ((he _).2 (.inl rfl))
      · exact .inl ((he _).2 (.inr (.inl rfl)))
      · exact .inl ((he _).2 (.inr (.inr (.inl rfl))))
      · rw [hkb] at hj
        injection hj with hj
        subst hj
        rcases hkc with h1 | h1
        · exact .inl ((he _).2 (.inr (.inr (.inr h1))))
        · exact .inr (by omega))
  have hsec := hi2.secs
  have hfg := flat_get hi.ok.lens n hn
  rw [Nat.mul_comm 256 n] at hfg
  have hii : (n : Int) < (st.S.length : Int) := by omega
  have e1 : (By zs).toList.length = 256 := by simp [By_size, zs_len]
  subst hv'
  clear hi hi2 he hb hb2 hi2s hoth hmi hfr3 h43 hsz4 hsz3 hu hlow cell3 cell4 cell5 loose4 hown hgrow hkb hkc hkd hkg hkm hgl hml hinfo hz0 hz1 hz2 hf hle hfew e1
  go_enter Tryd.func57, Tryd.ntmps57
  go_wp2_with (first | (with_reducible refine alloc_sector rfl rfl ?_))
  refine wp_region_still_tail 12 (by kernel_rfl) (by kernel_rfl) ?_
  simp only [List.take_succ_cons, List.take_zero, List.drop_succ_cons, List.drop_zero]
  change wpStill _ _ w2.drew _ _ _
  iterate 11 still_step
  refine load_still rfl (.tmp 26) rfl g (n * 256) rfl _ _ _ hsec hfg hv ?_
  refine wpStill_nil ?_
  change wpList _ _ _ _ _ w2.drew
  go_wp2_with (at_builtin; refine append_run rfl (.tmp 32) (.tmp 34) 23 rfl lv _ _ rfl rfl hap ?_)
  go_end0
  exact ⟨rfl, FIN.out⟩
end Go.Proofs.YtbjmbndeaobbeaaDoor
