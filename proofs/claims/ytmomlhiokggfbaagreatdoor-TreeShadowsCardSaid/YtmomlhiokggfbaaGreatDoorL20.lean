/-
 Rk, RkW, RkY, RkN, RkS, Ref01P, Rf09, TrBg, Tv, TrVa, MapW, TrLk, TrEx.
-/
import Derived.Test.YtmomlhiokggfbaaGreatDoorL07
import Derived.Deep.RegionHeld3
import Derived.StillTailTactics
import Derived.BigQuiet
import Derived.Test.YtmomlhiokggfbaaGreatDoorL12
import Derived.Test.YtmomlhiokggfbaaGreatDoorL03
import Derived.Test.YtmomlhiokggfbaaGreatDoorL19
import Derived.Test.YtmomlhiokggfbaaGreatDoorL08
import Derived.Test.YtmomlhiokggfbaaGreatDoorL18
import Derived.Test.YtmomlhiokggfbaaGreatDoorL01
import Derived.Test.YtmomlhiokggfbaaGreatDoorL04
import Derived.MapKept
namespace Go.Proofs.YtmomlhiokggfbaaGreatDoor
open Go.RowKit
set_option maxRecDepth 20000
set_option maxHeartbeats 12800000
set_option linter.unusedVariables false
set_option linter.unusedSimpArgs false
def WasV (p : Nat × List UInt8) : List Value := [.int .i64 (p.1 : Int), .string (Str p.2)]
theorem wasV_len (L : List (Nat × List UInt8)) : (L.flatMap WasV).length = L.length * 2 := by
  induction L with
  | nil => rfl
  | cons p L ih => rw [List.flatMap_cons, List.length_append, ih, List.length_cons]; show 2 + _ = _; omega
theorem wasV_get (L : List (Nat × List UInt8)) (j : Nat) (hj : j < L.length) : (L.flatMap WasV)[j * 2]? = some (.int .i64 ((L[j].1 : Nat) : Int)) := by
  induction L generalizing j with
  | nil => simp at hj
  | cons p L ih =>
    rw [List.flatMap_cons]
    cases j with
    | zero => rfl
    | succ j =>
      have hj2 : j < L.length := by simpa using hj
      rw [List.getElem?_append_right (by show 2 ≤ _; omega)];have e : (j + 1) * 2 - (WasV p).length = j * 2 := by show (j + 1) * 2 - 2 = _; omega
      rw [e, ih j hj2];simp
structure RkIn (w : World) (x : Nat) (vs vl : Value) (st : DkS) : Prop where
  cell : w.heap[x]? = some (.cells #[vs, vl, .int .i64 st.fuse, .bool (!st.up)] 167 (0, 0))
  secs : w.ownsRow 0 9 1 vs st.S.length (st.S.map fun s => .string (Str s))
  loose : w.ownsRow 0 195 2 vl st.L.length (st.L.flatMap WasV)
  sx : vs.ownBlock ≠ some x
  lx : vl.ownBlock ≠ some x
  sl : ∀ k, vs.ownBlock = some k → vl.ownBlock ≠ some k
  ok : st.Ok
def RkF (x : Nat) (vs vl : Value) (k : Nat) : Prop := k = x ∨ vs.ownBlock = some k ∨ vl.ownBlock = some k
def Rk (w : World) (x : Nat) (st : DkS) (F : Nat → Prop) : Prop := ∃ vs vl, RkIn w x vs vl st ∧ ∀ k, F k ↔ RkF x vs vl k
theorem ownsRow_keptN {w w' : World} {e : TypeId} {b size : Nat} {v : Value} {n : Nat} {xs : List Value} (h : w.ownsRow b e size v n xs) (hk : ∀ k, v.ownBlock = some k → w'.heap[k]? = w.heap[k]?) : w'.ownsRow b e size v n xs := by
  refine ⟨h.1, ?_⟩
  rcases h.2 with h2 | ⟨g, cap, cur, rfl, hb, hg, r⟩
  · exact .inl h2
  · exact .inr ⟨g, cap, cur, rfl, hb, (hk g rfl).trans hg, r⟩
theorem ownsRow_base {w : World} {e : TypeId} {b size : Nat} {v : Value} {n : Nat} {xs : List Value} (h : w.ownsRow b e size v n xs) : w.ownsRow 0 e size v n xs := by
  refine ⟨h.1, ?_⟩
  rcases h.2 with h2 | ⟨g, cap, cur, hv, hb, r⟩
  · exact .inl h2
  · exact .inr ⟨g, cap, cur, hv, Nat.zero_le _, r⟩
theorem ownsRow_put {w : World} {e : TypeId} {g n cap : Nat} {xs : List Value} (h : w.ownsRow 0 e 1 (.slice (some ⟨g, 0, none⟩) n cap) n xs) (j : Nat) (u : Value) : (w.setCell ⟨g, j, none⟩ u).ownsRow 0 e 1 (.slice (some ⟨g, 0, none⟩) n cap) n (xs.set j u) := by
  refine ⟨by rw [List.length_set]; exact h.1, .inr ?_⟩
  rcases h.2 with ⟨h2, _⟩ | ⟨g2, cap2, cur, hv, hb, hg, hnc, hcm, hcs, ht⟩
  · cases h2
  · injection hv with h1 h2 h3;injection h1 with h1;injection h1 with h1;subst h1 h3;refine ⟨g, cap, _, rfl, hb, hss w g j _ _ u hg, hnc, hcm, by rw [Array.size_setIfInBounds]; exact hcs, ?_⟩;rw [Array.toList_setIfInBounds, List.take_set, ht]
theorem RkIn.lt {w : World} {x : Nat} {vs vl : Value} {st : DkS} (h : RkIn w x vs vl st) (k : Nat) (hk : RkF x vs vl k) : k < w.heap.size := by
  rcases hk with rfl | hk | hk
  · exact (zl h.cell)
  · exact (h.secs.lt k hk).2
  · exact (h.loose.lt k hk).2
theorem RkIn.kept {w w' : World} {x : Nat} {vs vl : Value} {st : DkS} (h : RkIn w x vs vl st) (hk : ∀ k, RkF x vs vl k → w'.heap[k]? = w.heap[k]?) : RkIn w' x vs vl st :=
  ⟨(hk x (.inl rfl)).trans h.cell, ownsRow_keptN h.secs fun k hj => hk k (.inr (.inl hj)), ownsRow_keptN h.loose fun k hj => hk k (.inr (.inr hj)), h.sx, h.lx, h.sl, h.ok⟩
theorem RkIn.below {w w' : World} {x : Nat} {vs vl : Value} {st : DkS} (h : RkIn w x vs vl st) (hb : Below w.heap.size w w') : RkIn w' x vs vl st := h.kept fun k hk => hb.block k (h.lt k hk)
theorem RkIn.cells {w : World} {x : Nat} {vs vl : Value} {st : DkS} (h : RkIn w x vs vl st) :
    w.cell? ⟨x, 0, none⟩ = some vs ∧ w.cell? ⟨x, 1, none⟩ = some vl ∧ w.cell? ⟨x, 2, none⟩ = some (.int .i64 st.fuse) ∧ w.cell? ⟨x, 3, none⟩ = some (.bool (!st.up)) := by
  refine ⟨?_, ?_, ?_, ?_⟩ <;> (rw [cell_of_row w x _ _ _ _ h.cell]; rfl)
theorem RkIn.free {w : World} {x : Nat} {vs vl : Value} {st : DkS} (h : RkIn w x vs vl st) (j : Nat) : w.frozen? ⟨x, j, none⟩ = false := frozen_of_row w x j _ _ h.cell
theorem RkIn.setFuse {w : World} {x : Nat} {vs vl : Value} {st : DkS} (h : RkIn w x vs vl st) (f : Int) (h0 : -9223372036854775808 ≤ f) (h1 : f ≤ 9223372036854775807) : RkIn (w.setCell ⟨x, 2, none⟩ (.int .i64 f)) x vs vl { st with fuse := f } :=
  ⟨by rw [hss w x 2 _ _ _ h.cell]; rfl, ownsRow_keptN h.secs fun k hk => heap_setCell_other _ _ k _ (fun e => h.sx (by rw [hk, e])), ownsRow_keptN h.loose fun k hk => heap_setCell_other _ _ k _ (fun e => h.lx (by rw [hk, e])), h.sx, h.lx, h.sl,
   { lens := h.ok.lens, had := h.ok.had, keys := h.ok.keys, few := h.ok.few, least := h.ok.least, fuse0 := h0, fuse1 := h1 }⟩
theorem RkIn.setUp {w : World} {x : Nat} {vs vl : Value} {st : DkS} (h : RkIn w x vs vl st) (u : Bool) : RkIn (w.setCell ⟨x, 3, none⟩ (.bool (!u))) x vs vl { st with up := u } :=
  ⟨by rw [hss w x 3 _ _ _ h.cell]; rfl, ownsRow_keptN h.secs fun k hk => heap_setCell_other _ _ k _ (fun e => h.sx (by rw [hk, e])), ownsRow_keptN h.loose fun k hk => heap_setCell_other _ _ k _ (fun e => h.lx (by rw [hk, e])), h.sx, h.lx, h.sl,
   { lens := h.ok.lens, had := h.ok.had, keys := h.ok.keys, few := h.ok.few, least := h.ok.least, fuse0 := h.ok.fuse0, fuse1 := h.ok.fuse1 }⟩
theorem RkIn.vs_is {w : World} {x : Nat} {vs vl : Value} {st : DkS} (h : RkIn w x vs vl st) : ∃ g cap, vs = .slice (some ⟨g, 0, none⟩) st.S.length cap ∧ st.S.length ≤ cap ∧ cap ≤ maxLen := by
  rcases h.secs.2 with ⟨_, h2⟩ | ⟨g, cap, cur, hv, hb, hg, hnc, hcm, _⟩
  · have := h.ok.least; omega
  · exact ⟨g, cap, hv, hnc, hcm⟩
theorem RkIn.sec {w : World} {x g cap : Nat} {vl : Value} {st : DkS} (h : RkIn w x (.slice (some ⟨g, 0, none⟩) st.S.length cap) vl st) (n : Nat) (hn : n < st.S.length) : w.cell? ⟨g, n, none⟩ = some (.string (Str st.S[n])) ∧ w.frozen? ⟨g, n, none⟩ = false := by
  refine ⟨?_, ?_⟩
  · have := h.secs.cells (g := g) rfl n (.string (Str st.S[n])) (by rw [List.getElem?_map, List.getElem?_eq_getElem hn]; rfl);rw [addr_add, Nat.zero_add] at this;exact this
  · rcases h.secs.2 with ⟨h2, _⟩ | ⟨g2, cap2, cur, hv, hb, hg, _⟩
    · cases h2
    · injection hv with h1 h2 h3;injection h1 with h1;injection h1 with h1;subst h1;exact frozen_of_row w g n _ _ hg
theorem RkIn.setSec {w : World} {x g cap : Nat} {vl : Value} {st : DkS} (h : RkIn w x (.slice (some ⟨g, 0, none⟩) st.S.length cap) vl st) (n : Nat) (s : ByteArray) (hs : s.size = 256) : RkIn (w.setCell ⟨g, n, none⟩ (.string s)) x (.slice (some ⟨g, 0, none⟩) st.S.length cap) vl { st with S := st.S.set n s.data.toList } := by
  have hxg : x ≠ g := fun e => h.sx (by rw [e]; rfl)
  refine ⟨(heap_setCell_other _ _ x _ hxg).trans h.cell, ?_, ownsRow_keptN h.loose fun k hk => heap_setCell_other _ _ k _ (fun e => h.sl g rfl (by rw [hk, e])), h.sx, h.lx, h.sl, ?_⟩
  · have := ownsRow_put h.secs n (.string s);rw [List.length_set, List.map_set, Str_of];exact this
  · refine { lens := fun s' hs' => ?_, had := fun p hp => by rw [List.length_set]; exact h.ok.had p hp, keys := h.ok.keys, few := by rw [List.length_set]; exact h.ok.few, least := by rw [List.length_set]; exact h.ok.least, fuse0 := h.ok.fuse0, fuse1 := h.ok.fuse1 }
    rcases List.mem_or_eq_of_mem_set hs' with h1 | h1
    · exact h.ok.lens s' h1
    · rw [h1]; simpa using hs
def RkPost (w : World) (x : Nat) (st : DkS) (F : Nat → Prop) (w' : World) : Prop := ∃ F', Rk w' x st F' ∧ Frm F w w' ∧ ∀ k, F' k → F k ∨ w.heap.size ≤ k
theorem RkPost.same {w : World} {x : Nat} {st : DkS} {F : Nat → Prop} (h : Rk w x st F) : RkPost w x st F w := ⟨F, h, Frm.refl _ _, fun k hk => .inl hk⟩
theorem was_info : ∃ i, Tryz.prog.info? 195 = some i ∧ i.zero = some (.agg #[.int .i64 0, .string ⟨#[]⟩]) ∧ i.size = 2 ∧ i.bytes = 24 := by
 have : (Tryz.prog.info? 195).map (fun i => (i.zero, i.size, i.bytes)) = some (some (.agg #[.int .i64 0, .string ⟨#[]⟩]), 2, 24) := by kernel_rfl
 cases hq : Tryz.prog.info? 195 with
 | none => rw [hq] at this; cases this
 | some i =>
  rw [hq] at this;simp only [Option.map_some, Option.some.injEq, Prod.mk.injEq] at this;exact ⟨i, rfl, this.1, this.2.1, this.2.2⟩
def cutV : Value → Nat → Value
 | .slice a _ _, n => .slice a n n
 | v, _ => v
theorem was_append {w : World} {vl : Value} {L : List (Nat × List UInt8)} (hown : w.ownsRow 0 195 2 vl L.length (L.flatMap WasV)) (hL : L.length ≤ 640) (b : Nat) (p : Nat × List UInt8)
  (hb : w.heap[b]? = some (.cells #[.int .i64 (p.1 : Int), .string (Str p.2)] 195 (0, 0))) :
  ∃ cap w', (Builtin.append_ #[165, 165] 165 #[cutV vl L.length, .slice (some ⟨b, 0, none⟩) 1 1]).run Tryz.prog w = .ok (.slice (some ⟨w.heap.size, 0, none⟩) (L.length + 1) cap) w' ∧
   w'.ownsRow 0 195 2 (.slice (some ⟨w.heap.size, 0, none⟩) (L.length + 1) cap) (L.length + 1) ((L ++ [p]).flatMap WasV) ∧ Below w.heap.size w w' := by
 obtain ⟨i, hi, hz, hsize, hby⟩ := was_info
 have hnews : ∀ j u, (WasV p)[j]? = some u → w.cell? ((⟨b, 0, none⟩ : Addr).add j) = some u := by
  intro j u hj;rw [addr_add, Nat.zero_add, cell_of_row w b j _ _ _ hb];unfold WasV at hj
  match j, hj with
  | 0, hj => simpa using hj
  | 1, hj => simpa using hj
  | j + 2, hj => simp at hj
 have hlen : (L.flatMap WasV ++ WasV p).length = (L.length + 1) * i.size := by rw [List.length_append, wasV_len, hsize]; show _ + 2 = _; omega
 have grown : ∀ (w1 : World) (c : Nat) (cs : Array Value), w1 = w.drew.alloc (.cells cs 195) → cs.toList = L.flatMap WasV ++ WasV p ++ (Builtin.zeroCells (.agg #[.int .i64 0, .string ⟨#[]⟩] : Value).cells (c - (L.length + 1))).toList → L.length + 1 ≤ c → c ≤ maxLen →
   w1.ownsRow 0 195 2 (.slice (some ⟨w.heap.size, 0, none⟩) (L.length + 1) c) (L.length + 1) ((L ++ [p]).flatMap WasV) ∧ Below w.heap.size w w1 := by
  intro w1 c cs hw1 hcs h1 h2;subst hw1;have e : (L ++ [p]).flatMap WasV = L.flatMap WasV ++ WasV p := by simp
  rw [e];refine ⟨⟨by rw [hlen, hsize], .inr ⟨w.heap.size, c, cs, rfl, Nat.zero_le _, han w.drew _, h1, h2, ?_, ?_⟩⟩, ⟨rfl, rfl, rfl, by simp, fun k hk => Below.heap_alloc w.drew _ k hk⟩⟩
  ·have hzl : ∀ n, (Builtin.zeroCells (Value.agg #[.int .i64 0, .string ⟨#[]⟩]).cells n).toList.length = n * 2 := fun n => by
    rw [Array.length_toList, size_zeroCells]
    rfl
   rw [← Array.length_toList, hcs, List.length_append, hlen, hsize, hzl];omega
  ·rw [hcs, ← hsize, ← hlen]
   exact List.take_left
 rcases hown.2 with ⟨rfl, h0⟩ | ⟨g, cap, cur, rfl, hbg, hg, hnc, hcm, hcs, htake⟩
 ·have hr := run_append_nil (P := Tryz.prog) w 165 165 195 i _ Tryz.underlying165 hi hz ⟨b, 0, none⟩ 1 1 (WasV p) (by rw [hsize]; rfl) hnews (by decide) (by decide) (by omega)
  obtain rfl : L = [] := List.length_eq_zero_iff.1 h0;exact ⟨_, _, hr, grown _ _ _ rfl (by simp) (grownCap_ge w 1 0 _) (grownCap_le_maxLen w 1 0 _ (by decide))⟩
 ·have holds : ∀ j u, (L.flatMap WasV)[j]? = some u → w.cell? ((⟨g, 0, none⟩ : Addr).add j) = some u := hown.cells (g := g) rfl
  have hr := run_append_grow (P := Tryz.prog) w 165 165 195 i _ Tryz.underlying165 hi hz ⟨g, 0, none⟩ L.length L.length (L.flatMap WasV) (by rw [hsize, wasV_len]) holds ⟨b, 0, none⟩ 1 1 (WasV p) (by rw [hsize]; rfl) hnews (by omega) (by omega) (growslice_fits (by omega) (by rw [hby]; omega));exact ⟨_, _, hr, grown _ _ _ rfl (by simp) (grownCap_ge w _ _ _) (grownCap_le_maxLen w _ _ _ (by unfold maxLen; omega))⟩
theorem step_append_run {P : Program} {ops : Array Oper} {o : Oper} {a : Act} {w w' : World} {K : Act → World → Prop} {Q : Exit → Act → World → Prop} {E : Prop} (hgd : o.guard = none) (s x : Operand) (t : TypeId)
  (ho : o.op = .call { callee := .builtin .append, args := #[s, x], argTypes := #[t, t] }) (v y v' : Value) (hs : a.eval s = v) (hx : a.eval x = y)
  (hr : (Builtin.append_ #[t, t] o.type #[v, y]).run P w = .ok v' w') (h : K (a.put o.dst v') w') :
  if Region.wanted o (yielded ops a.tmps) = true then Oper.wp P o a w K Q else E := by
 have hw : Region.wanted o (yielded ops a.tmps) = true := by simp [Region.wanted, hgd]
 rw [if_pos hw];unfold Oper.wp;simp [execOp, ho, resolve, invoke, builtin, hs, hx, hr, Result.andThen];exact h
theorem RkIn.grow {wr w2 : World} {x : Nat} {vs vl v' : Value} {st : DkS} (h : RkIn wr x vs vl st) (hb : Below wr.heap.size wr w2) (p : Nat × List UInt8) (ho : w2.ownsRow 0 195 2 v' (st.L.length + 1) ((st.L ++ [p]).flatMap WasV)) (N1 : Nat) (hv : v'.ownBlock = some N1) (hN : wr.heap.size ≤ N1)
  (h1 : p.1 < st.S.length) (h2 : p.2.length = 256) (h3 : p.1 ∉ st.L.map (·.1)) : RkIn (w2.setCell ⟨x, 1, none⟩ v') x vs v' { st with L := st.L ++ [p] } := by
 have hx : x < wr.heap.size := h.lt x (.inl rfl);have hg := h.below hb;refine ⟨by rw [hss w2 x 1 _ _ _ hg.cell]; rfl, ownsRow_keptN hg.secs fun k hk => heap_setCell_other _ _ k _ (fun e => h.sx (by rw [hk, e])), ?_, h.sx, by rw [hv]; intro e; injection e with e; omega, fun k hk e => ?_, ?_⟩
 ·have := ownsRow_keptN (w' := w2.setCell ⟨x, 1, none⟩ v') ho fun k hk => heap_setCell_other _ _ k _ (fun e => by rw [hv] at hk; injection hk with hk; have e : k = x := e; omega)
  simpa using this
 ·have := h.lt k (.inr (.inl hk))
  rw [hv] at e;injection e with e;omega
 ·refine { lens := h.ok.lens, had := fun q hq => ?_, keys := ?_, few := h.ok.few, least := h.ok.least, fuse0 := h.ok.fuse0, fuse1 := h.ok.fuse1 }
  ·rcases List.mem_append.1 hq with hq | hq
   ·exact h.ok.had q hq
   ·rw [List.mem_singleton.1 hq]; exact ⟨h1, h2⟩
  ·show ((st.L ++ [p]).map (·.1)).Nodup
   rw [List.map_append, List.nodup_append];refine ⟨h.ok.keys, by simp, fun a ha b hb2 => ?_⟩;rw [List.map_singleton, List.mem_singleton] at hb2;intro e;exact h3 (by rw [← hb2, ← e]; exact ha)
theorem refWrite_down (w : World) (x : Nat) (st : DkS) (F : Nat → Prop) (h : Rk w x st F) (i : Int) (s : ByteArray) (hu : st.up = false) :
  Calls Tryz.prog 103 #[.pointer (some ⟨x, 0, none⟩), .int .i64 i, .string s] w fun e w' => e = .returned (.int .i64 5) ∧ w = w' := by
 obtain ⟨vs, vl, hi, he⟩ := h;obtain ⟨_, _, _, c3⟩ := hi.cells;rw [hu] at c3;clear hi he hu;go_enter Tryz.func103, Tryz.ntmps103;try simp only [List.append_eq, List.cons_append, List.nil_append]
 go_wp2_with fail;go_ret;exact ⟨rfl, rfl⟩
theorem refWrite_arg (w : World) (x : Nat) (st : DkS) (F : Nat → Prop) (h : Rk w x st F) (i : Int) (s : ByteArray) (hu : st.up = true) (hn : i < 0 ∨ (0 ≤ i ∧ (st.S.length : Int) ≤ i) ∨ (0 ≤ i ∧ i < (st.S.length : Int) ∧ ((s.size : Int) != 256) = true)) :
  Calls Tryz.prog 103 #[.pointer (some ⟨x, 0, none⟩), .int .i64 i, .string s] w fun e w' => e = .returned (.int .i64 1) ∧ w = w' := by
 obtain ⟨vs, vl, hi, he⟩ := h;obtain ⟨g, cap, rfl, h1, h2⟩ := hi.vs_is;obtain ⟨c0, _, _, c3⟩ := hi.cells;rw [hu] at c3;clear hi he hu;generalize st.S.length = m at *
 rcases hn with hn | ⟨hn, hn2⟩ | ⟨hn, hn2, hn3⟩
 all_goals
  go_enter Tryz.func103, Tryz.ntmps103;try simp only [List.append_eq, List.cons_append, List.nil_append]
  go_wp2_with fail;go_ret;exact ⟨rfl, rfl⟩
theorem refWrite_blown (w : World) (x : Nat) (st : DkS) (F : Nat → Prop) (h : Rk w x st F) (i : Nat) (s : ByteArray) (hu : st.up = true) (hi : i < st.S.length) (hs : s.size = 256) (hf : st.fuse = 0) :
  Calls Tryz.prog 103 #[.pointer (some ⟨x, 0, none⟩), .int .i64 (i : Int), .string s] w fun e w' => e = .returned (.int .i64 5) ∧ RkPost w x { st with up := false } F w' := by
 obtain ⟨vs, vl, hin, he⟩ := h;obtain ⟨g, cap, rfl, h1, h2⟩ := hin.vs_is;obtain ⟨c0, _, c2, c3⟩ := hin.cells;have f3 := hin.free 3;have FIN : Hid (RkPost w x { st with up := false } F (w.setCell ⟨x, 3, none⟩ (.bool true))) := Hd ⟨F, ⟨_, _, hin.setUp false, he⟩, (Frm.refl _ _).setCell _ _ (.inl ((he x).2 (.inl rfl))), fun k hk => .inl hk⟩;rw [hu] at c3;rw [hf] at c2;clear hin he hu hf;have hs2 : ((s.size : Int) != 256) = false := by rw [hs]; rfl
 generalize st.S.length = m at *;have hii : (i : Int) < (m : Int) := by omega
 clear hs;go_enter Tryz.func103, Tryz.ntmps103;try simp only [List.append_eq, List.cons_append, List.nil_append]
 go_wp2_with fail;go_ret;exact ⟨rfl, FIN.out⟩
def metB (L : List (Nat × List UInt8)) (n j : Nat) : Bool := (L.take j).any fun p => p.1 == n
theorem metB_step (L : List (Nat × List UInt8)) (n j : Nat) (hj : j < L.length) : metB L n (j + 1) = (metB L n j || decide (L[j].1 = n)) := by
 unfold metB;rw [List.take_add_one, List.getElem?_eq_getElem hj, List.any_append];simp
 rfl
theorem metB_all (L : List (Nat × List UInt8)) (n : Nat) : metB L n L.length = L.any fun p => p.1 == n := by
 unfold metB;rw [List.take_length]
theorem RkIn.sec2 {w : World} {x g m cap : Nat} {vl : Value} {st : DkS} (h : RkIn w x (.slice (some ⟨g, 0, none⟩) m cap) vl st) (hm : st.S.length = m) (n : Nat) (hn : n < m) : w.cell? ⟨g, n, none⟩ = some (.string (Str (st.S.getD n []))) ∧ w.frozen? ⟨g, n, none⟩ = false := by
 subst hm;have := h.sec n hn;rw [List.getD_eq_getElem?_getD, List.getElem?_eq_getElem hn];exact this
theorem RkIn.setSec2 {w : World} {x g m cap : Nat} {vl : Value} {st : DkS} (h : RkIn w x (.slice (some ⟨g, 0, none⟩) m cap) vl st) (hm : st.S.length = m) (n : Nat) (s : ByteArray) (hs : s.size = 256) : RkIn (w.setCell ⟨g, n, none⟩ (.string s)) x (.slice (some ⟨g, 0, none⟩) m cap) vl { st with S := st.S.set n s.data.toList } := by
 subst hm;exact h.setSec n s hs
theorem RkIn.addr {w : World} {x q vc : Nat} {vs : Value} {va : Option Addr} {st : DkS} (h : RkIn w x vs (.slice va q vc) st) (hq : st.L.length = q) (hp : 0 < q) : ∃ l, va = some ⟨l, 0, none⟩ ∧ ∀ j (hj : j < st.L.length), w.cell? ⟨l, j * 2, none⟩ = some (.int .i64 ((st.L[j].1 : Nat) : Int)) := by
 rcases h.loose.2 with ⟨_, h2⟩ | ⟨l, cap, cur, hv, _⟩
 ·omega
 ·injection hv with h1 h2 h3
  subst h1;refine ⟨l, rfl, fun j hj => ?_⟩;have := h.loose.cells (g := l) rfl (j * 2) _ (wasV_get st.L j hj);rw [addr_add, Nat.zero_add] at this;exact this
theorem RkIn.caps {w : World} {x q vc : Nat} {vs : Value} {a : Addr} {st : DkS} (h : RkIn w x vs (.slice (some a) q vc) st) : q ≤ vc ∧ vc ≤ maxLen := by
 rcases h.loose.2 with ⟨h1, _⟩ | ⟨l, cap, cur, hv, _, _, h3, h4, _⟩
 ·cases h1
 ·injection hv with h1 h2 h5
  omega
theorem RkIn.caps0 {w : World} {x q vc : Nat} {vs : Value} {st : DkS} (h : RkIn w x vs (.slice none q vc) st) (hq : st.L.length = q) : q = 0 ∧ vc = 0 := by
 rcases h.loose.2 with ⟨h1, h2⟩ | ⟨l, cap, cur, hv, _⟩
 ·injection h1 with h3 h4 h5
  omega
 ·cases hv
theorem RkPost.of {w w' : World} {x : Nat} {vs vl : Value} {st : DkS} {F : Nat → Prop} (hk : RkIn w' x vs vl st) (hf : Frm F w w') (hs : ∀ k, RkF x vs vl k → F k ∨ w.heap.size ≤ k) : RkPost w x st F w' := ⟨RkF x vs vl, ⟨vs, vl, hk, fun _ => Iff.rfl⟩, hf, hs⟩
theorem wrote_met (st : DkS) (n : Nat) (s : List UInt8) (h : (st.L.any fun p => p.1 == n) = true) : st.wrote n s = { st with fuse := (if 0 < st.fuse then st.fuse - 1 else st.fuse), S := st.S.set n s } := by
 unfold DkS.wrote DkS.loosened;simp only [h, if_true]
theorem wrote_new (st : DkS) (n : Nat) (s : List UInt8) (h : (st.L.any fun p => p.1 == n) = false) : st.wrote n s = { st with fuse := (if 0 < st.fuse then st.fuse - 1 else st.fuse), L := st.L ++ [(n, st.S.getD n [])], S := st.S.set n s } := by
 unfold DkS.wrote DkS.loosened;simp only [h]
 rfl
theorem refWrite_yes (w : World) (x : Nat) (st : DkS) (F : Nat → Prop) (h : Rk w x st F) (n : Nat) (s : ByteArray) (hu : st.up = true) (hn : n < st.S.length) (hs : s.size = 256) (hf : st.fuse ≠ 0) :
  Calls Tryz.prog 103 #[.pointer (some ⟨x, 0, none⟩), .int .i64 (n : Int), .string s] w fun e w' => e = .returned (.int .i64 0) ∧ RkPost w x (st.wrote n s.data.toList) F w' := by
 obtain ⟨vs, vl, hin, he⟩ := h;obtain ⟨g, cap, rfl, h1, h2⟩ := hin.vs_is;obtain ⟨c0, c1, c2, c3⟩ := hin.cells;have f2 := hin.free 2;obtain ⟨st1, hst1⟩ : ∃ st1 : DkS, { st with fuse := (if 0 < st.fuse then st.fuse - 1 else st.fuse) } = st1 := ⟨_, rfl⟩
 have hS1 : st1.S = st.S := by rw [← hst1]
 have hL1 : st1.L = st.L := by rw [← hst1]
 rw [hu] at c3;have hs2 : ((s.size : Int) != 256) = false := by rw [hs]; rfl
 have hf2 : (st.fuse == 0) = false := by simpa using hf
 have hf0 := hin.ok.fuse0;have hf1 := hin.ok.fuse1;have hni : (n : Int) < (st.S.length : Int) := by omega
 have hxF : F x := (he x).2 (.inl rfl)
 have key : (0 < st.fuse ∧ Hid (RkIn (w.setCell ⟨x, 2, none⟩ (.int .i64 (st.fuse - 1))) x (.slice (some ⟨g, 0, none⟩) st1.S.length cap) vl st1) ∧ Hid (Frm F w (w.setCell ⟨x, 2, none⟩ (.int .i64 (st.fuse - 1))))) ∨
   (¬ 0 < st.fuse ∧ Hid (RkIn w x (.slice (some ⟨g, 0, none⟩) st1.S.length cap) vl st1) ∧ Hid (Frm F w w)) := by
  by_cases hpos : 0 < st.fuse
  ·refine .inl ⟨hpos, Hd ?_, Hd ((Frm.refl _ _).setCell _ _ (.inl hxF))⟩
   have := hin.setFuse (st.fuse - 1) (by omega) (by omega);rw [hS1, ← hst1, if_pos hpos];exact this
  ·refine .inr ⟨hpos, Hd ?_, Hd (Frm.refl _ _)⟩
   rw [hS1, ← hst1, if_neg hpos];exact hin
 have hFs : Hid (∀ k, RkF x (.slice (some ⟨g, 0, none⟩) st1.S.length cap) vl k → F k) := Hd fun k hk => (he k).2 (by rw [hS1] at hk; exact hk)
 obtain ⟨va, vc, hvl⟩ : ∃ va vc, vl = .slice va st1.L.length vc := by
  rw [hL1]
  rcases hin.loose.2 with ⟨h3, h4⟩ | ⟨l, lc, cur, h3, _⟩
  ·exact ⟨none, 0, by rw [h3, h4]⟩
  ·exact ⟨_, _, h3⟩
 have hq640 : st1.L.length ≤ 640 := by rw [hL1]; exact hin.ok.loose_le
 have WM := Hd (wrote_met st n s.data.toList);have WN := Hd (wrote_new st n s.data.toList);have hS1' := Hd hS1;have hL1' := Hd hL1;have hst1' := Hd hst1;rw [← hS1] at c0 h1 hni hn;subst hvl;obtain ⟨m, hm⟩ : ∃ m, st1.S.length = m := ⟨_, rfl⟩
 obtain ⟨q, hq⟩ : ∃ q, st1.L.length = q := ⟨_, rfl⟩
 have hm' := Hd hm;have hq' := Hd hq;rw [hm] at c0 h1 hni hn key hFs;rw [hq] at c1 hq640 key hFs;have hw0 : Hid (x < w.heap.size) := Hd (hin.lt x (.inl rfl));clear hin he hS1 hL1 hst1 hm hq hu;generalize st.fuse = fu at *
 rcases key with ⟨hpos, H1, HF⟩ | ⟨hpos, H1, HF⟩
 all_goals
  go_enter Tryz.func103, Tryz.ntmps103;try simp only [List.append_eq, List.cons_append, List.nil_append]
  go_wp2_with fail
  go_loopw [7, 8] (fun b i wr => ∃ (j : Nat) (b0 : Bool), j ≤ q ∧ i = .int .i64 (j : Int) ∧ b = .bool b0 ∧ Hid (metB st1.L n j = b0) ∧ Hid (RkIn wr x (.slice (some ⟨g, 0, none⟩) m cap) (.slice va q vc) st1) ∧ Hid (Frm F w wr)) (fun _ i _ => q + 1 - (intOf i).toNat)
  case atStart => exact ⟨0, false, Nat.zero_le _, rfl, rfl, Hd rfl, H1, HF⟩
  case round =>
   obtain ⟨j, b0, hj, rfl, rfl, hb0, H1, HF⟩ := hrel;obtain ⟨d0, d1, _, _⟩ := H1.out.cells
   by_cases hlt : j < q
   ·have hji : (j : Int) < (q : Int) := by omega
    have hjl : j < st1.L.length := by rw [hq'.out]; exact hlt
    have hstep := Hd (metB_step st1.L n j hjl)
    cases b0
    ·obtain ⟨l, hva, hcell⟩ := H1.out.addr hq'.out (by omega)
     have cj := hcell j hjl;subst hva;clear hcell;obtain ⟨k, hk⟩ : ∃ k, st1.L[j].1 = k := ⟨_, rfl⟩
     rw [hk] at cj hstep;clear hk
     by_cases hkn : k = n
     ·have hkb : ((k : Int) == (n : Int)) = true := by rw [hkn]; simp
      have hnext : Hid (metB st1.L n (j + 1) = true) := Hd (by rw [hstep.out, hb0.out, hkn]; simp);clear hkn;go_wp2_with fail;go_roundw
      case rel => exact ⟨j + 1, true, by omega, by go_num, rfl, hnext, H1, HF⟩
      case measure => simp [intOf]; omega
     ·have hkb : ((k : Int) == (n : Int)) = false := by simpa using (fun e : (k : Int) = (n : Int) => hkn (by omega))
      have hnext : Hid (metB st1.L n (j + 1) = false) := Hd (by rw [hstep.out, hb0.out]; simp [hkn]);clear hkn;go_wp2_with fail;go_roundw
      case rel => exact ⟨j + 1, false, by omega, by go_num, rfl, hnext, H1, HF⟩
      case measure => simp [intOf]; omega
    ·have hnext : Hid (metB st1.L n (j + 1) = true) := Hd (by rw [hstep.out, hb0.out]; rfl)
     go_wp2_with fail;go_roundw
     case rel => exact ⟨j + 1, true, by omega, by go_num, rfl, hnext, H1, HF⟩
     case measure => simp [intOf]; omega
   ·have hji : ¬ (j : Int) < (q : Int) := by omega
    have hall : Hid ((st1.L.any fun p => p.1 == n) = b0) := Hd (by rw [← metB_all, hq'.out, ← hb0.out, show j = q by omega])
    cases b0
    ·obtain ⟨cs, fs⟩ := H1.out.sec2 hm'.out n hn
     obtain ⟨X, HX⟩ : ∃ X, Hid (Str (st1.S.getD n []) = X) := ⟨_, Hd rfl⟩
     rw [HX.out] at cs;obtain ⟨W1, hW1⟩ : ∃ W1, wr.drew.alloc (.cells #[.int .i64 (n : Int), .string X] 195) = W1 := ⟨_, rfl⟩
     have hB1 : Below wr.heap.size wr W1 := by rw [← hW1]; exact ((Below.refl _ wr).drew).alloc (Nat.le_refl _) _
     have hK1 := H1.out.below hB1;obtain ⟨c', w2, hap, how, hb2⟩ := was_append (L := st1.L) (vl := .slice va q vc) hK1.loose (by rw [hq'.out]; exact hq640) wr.heap.size (n, st1.S.getD n []) (by rw [← hW1, HX.out]; exact han _ _);have hcut : cutV (.slice va q vc) st1.L.length = .slice va q q := by rw [hq'.out]; rfl
     rw [hcut, hq'.out] at hap;have hB2 : Below wr.heap.size wr w2 := chain hB1 hb2;have hNW : wr.heap.size ≤ W1.heap.size := hB1.size;obtain ⟨N1, hN1⟩ : ∃ N1, W1.heap.size = N1 := ⟨_, rfl⟩
     rw [hN1] at hap how hNW;rw [hq'.out] at how;have H2 := H1.out.below hB2
     have GR := H1.out.grow hB2 (n, st1.S.getD n []) (by rw [hq'.out]; exact how) N1 rfl hNW (by rw [hm'.out]; exact hn) (by
      rw [List.getD_eq_getElem?_getD, List.getElem?_eq_getElem (by rw [hm'.out]; exact hn)];exact H1.out.ok.lens _ (List.getElem_mem _)) (by
      intro hx;obtain ⟨p, hp, hpe⟩ := List.mem_map.1 hx;have : (st1.L.any fun p => p.1 == n) = true := List.any_eq_true.2 ⟨p, hp, by simpa using hpe⟩;rw [hall.out] at this
      cases this)
     obtain ⟨e0, e1, _, _⟩ := H2.cells;have e1f := H2.free 1;obtain ⟨e2, _⟩ := H2.sec2 hm'.out n hn;rw [HX.out] at e2;obtain ⟨r0, _, _, _⟩ := GR.cells;obtain ⟨r2, r3⟩ := GR.sec2 (show _ = m from hm'.out) n hn;rw [show Str (({ st1 with L := st1.L ++ [(n, st1.S.getD n [])] } : DkS).S.getD n []) = X from HX.out] at r2;obtain ⟨k0, k1, _, _⟩ := hK1.cells;obtain ⟨k2, _⟩ := hK1.sec2 hm'.out n hn;rw [HX.out] at k2;rw [← hW1] at k0 k1 k2 hap
     have FINeq : ({ st1 with L := st1.L ++ [(n, st1.S.getD n [])], S := st1.S.set n s.data.toList } : DkS) = st.wrote n s.data.toList := by
      rw [WN.out (by rw [← hL1'.out]; exact hall.out), ← hS1'.out, ← hL1'.out, ← hst1'.out]
     have FIN : Hid (RkPost w x (st.wrote n s.data.toList) F ((w2.setCell ⟨x, 1, none⟩ (.slice (some ⟨N1, 0, none⟩) (q + 1) c')).setCell ⟨g, n, none⟩ (.string s))) := Hd (by
      rw [← FINeq];have hF2 : Frm F w w2 := HF.out.trans (G := fun _ => False) (Frm.of_below hB2) (fun _ hx => hx.elim);refine RkPost.of (GR.setSec2 (show _ = m from hm'.out) n s hs) ((hF2.setCell ⟨x, 1, none⟩ _ (.inl hxF)).setCell ⟨g, n, none⟩ _ (.inl (hFs.out g (.inr (.inl rfl))))) (fun k hk => ?_)
      rcases hk with hk | hk | hk
      ·exact .inl (hFs.out k (.inl hk))
      ·exact .inl (hFs.out k (.inr (.inl hk)))
      ·have hk : N1 = k := Option.some.inj hk
       exact .inr (by have := HF.out.size; omega))
     have hxr := H1.out.lt x (.inl rfl);clear hB1 hK1 hcut hB2 H2 GR FINeq how hb2 hW1 hN1 hall hb0
     rcases va with _ | ⟨vb, vo, vp⟩
     ·obtain ⟨hq0, hvc0⟩ := H1.out.caps0 hq'.out
      subst hq0 hvc0;go_wp2_with fail;refine region_ways (fun w' => w'.cell? ⟨x, 0, none⟩ = some (.slice (some ⟨g, 0, none⟩) m cap) ∧ w'.cell? ⟨x, 1, none⟩ = some (.slice none 0 0) ∧ w'.cell? ⟨g, n, none⟩ = some (.string X)) 29 (by kernel_rfl) ?_;have HS : wr.drew.cell? ⟨x, 0, none⟩ = some (.slice (some ⟨g, 0, none⟩) m cap) ∧ wr.drew.cell? ⟨x, 1, none⟩ = some (.slice none 0 0) ∧ wr.drew.cell? ⟨g, n, none⟩ = some (.string X) := ⟨d0, d1, cs⟩
      refine Ws 0 (.pointer (some ⟨x, 0, none⟩)) HS ?_ ?_
      ·intro w9
       go_simp
      simp only [Act.put, SL];refine Ws 1 (.pointer (some ⟨x, 0, none⟩)) HS ?_ ?_
      ·intro w9
       go_simp
      simp only [Act.put, SL];refine Ws 2 (.pointer (some ⟨x, 0, none⟩)) HS ?_ ?_
      ·intro w9
       go_simp
      simp only [Act.put, SL];refine Ws 3 (.pointer (some ⟨x, 1, none⟩)) HS ?_ ?_
      ·intro w9
       go_simp
      simp only [Act.put, SL];refine Wt 4 (.slice none 0 0) HS ?_ ?_
      ·rintro w9 ⟨s0, s1, s2⟩
       go_simp
      simp only [Act.put, SL];refine Ws 5 (.pointer (some ⟨x, 0, none⟩)) HS ?_ ?_
      ·intro w9
       go_simp
      simp only [Act.put, SL];refine Ws 6 (.pointer (some ⟨x, 0, none⟩)) HS ?_ ?_
      ·intro w9
       go_simp
      simp only [Act.put, SL];refine Ws 7 (.pointer (some ⟨x, 1, none⟩)) HS ?_ ?_
      ·intro w9
       go_simp
      simp only [Act.put, SL];refine Wt 8 (.slice none 0 0) HS ?_ ?_
      ·rintro w9 ⟨s0, s1, s2⟩
       go_simp
      simp only [Act.put, SL];refine Ws 9 (.int .i64 0) HS ?_ ?_
      ·intro w9
       go_simp
      simp only [Act.put, SL];refine Ws 10 (.pointer (some ⟨x, 0, none⟩)) HS ?_ ?_
      ·intro w9
       go_simp
      simp only [Act.put, SL];refine Ws 11 (.pointer (some ⟨x, 0, none⟩)) HS ?_ ?_
      ·intro w9
       go_simp
      simp only [Act.put, SL];refine Ws 12 (.pointer (some ⟨x, 1, none⟩)) HS ?_ ?_
      ·intro w9
       go_simp
      simp only [Act.put, SL];refine Wt 13 (.slice none 0 0) HS ?_ ?_
      ·rintro w9 ⟨s0, s1, s2⟩
       go_simp
      simp only [Act.put, SL];refine Ws 14 (.int .i64 0) HS ?_ ?_
      ·intro w9
       go_simp
      simp only [Act.put, SL];refine Ws 15 (.slice none 0 0) HS ?_ ?_
      ·intro w9
       go_simp
      simp only [Act.put, SL];refine Ws 16 (.int .i64 (n : Int)) HS ?_ ?_
      ·intro w9
       go_simp
      simp only [Act.put, SL];refine Ws 17 (.pointer (some ⟨x, 0, none⟩)) HS ?_ ?_
      ·intro w9
       go_simp
      simp only [Act.put, SL];refine Ws 18 (.pointer (some ⟨x, 0, none⟩)) HS ?_ ?_
      ·intro w9
       go_simp
      simp only [Act.put, SL];refine Ws 19 (.pointer (some ⟨x, 0, none⟩)) HS ?_ ?_
      ·intro w9
       go_simp
      simp only [Act.put, SL];refine Wt 20 (.slice (some ⟨g, 0, none⟩) m cap) HS ?_ ?_
      ·rintro w9 ⟨s0, s1, s2⟩
       go_simp
      simp only [Act.put, SL];refine Ws 21 (.int .i64 (n : Int)) HS ?_ ?_
      ·intro w9
       go_simp
      simp only [Act.put, SL];refine Ws 22 (.pointer (some ⟨g, n, none⟩)) HS ?_ ?_
      ·intro w9
       go_simp
      simp only [Act.put, SL];refine Wt 23 (.string X) HS ?_ ?_
      ·rintro w9 ⟨s0, s1, s2⟩
       go_simp
      simp only [Act.put, SL];refine Ws 24 (.agg #[.int .i64 (n : Int), .string X]) HS ?_ ?_
      ·intro w9
       go_simp
      simp only [Act.put, SL];refine Wp 25 (fun K HK => ?_);go_simp;refine HK.out _ _ ?_ (fun _ => ⟨k0, k1, k2⟩);clear HK K;refine Wp 26 (fun K HK => ?_);refine step_append_run (by rfl) (.tmp 91) (.tmp 101) 165 (by rfl) _ _ _ (by rfl) (by rfl) hap ?_;refine HK.out _ _ ?_ (fun _ => ⟨e0, e1, e2⟩);clear HK K;simp only [Act.put, SL];have HS2 : w2.cell? ⟨x, 0, none⟩ = some (.slice (some ⟨g, 0, none⟩) m cap) ∧ w2.cell? ⟨x, 1, none⟩ = some (.slice none 0 0) ∧ w2.cell? ⟨g, n, none⟩ = some (.string X) := ⟨e0, e1, e2⟩
      refine Ws 27 (.pointer (some ⟨x, 0, none⟩)) HS2 ?_ ?_
      ·intro w9
       go_simp
      simp only [Act.put, SL];refine Ws 28 (.pointer (some ⟨x, 1, none⟩)) HS2 ?_ ?_
      ·intro w9
       go_simp
      simp only [Act.put, SL];refine Wp 29 (fun K HK => ?_);go_simp;refine HK.out _ _ ?_ (fun h => absurd rfl h);clear HK K;refine ways_done (by kernel_rfl) ?_;go_wp2_with fail;go_ret;exact ⟨rfl, FIN.out⟩
     ·have hqv := H1.out.caps
      go_wp2_with fail;refine region_ways (fun w' => w'.cell? ⟨x, 0, none⟩ = some (.slice (some ⟨g, 0, none⟩) m cap) ∧ w'.cell? ⟨x, 1, none⟩ = some (.slice (some ⟨vb, vo, vp⟩) q vc) ∧ w'.cell? ⟨g, n, none⟩ = some (.string X)) 29 (by kernel_rfl) ?_;have HS : wr.drew.cell? ⟨x, 0, none⟩ = some (.slice (some ⟨g, 0, none⟩) m cap) ∧ wr.drew.cell? ⟨x, 1, none⟩ = some (.slice (some ⟨vb, vo, vp⟩) q vc) ∧ wr.drew.cell? ⟨g, n, none⟩ = some (.string X) := ⟨d0, d1, cs⟩
      refine Ws 0 (.pointer (some ⟨x, 0, none⟩)) HS ?_ ?_
      ·intro w9
       go_simp
      simp only [Act.put, SL];refine Ws 1 (.pointer (some ⟨x, 0, none⟩)) HS ?_ ?_
      ·intro w9
       go_simp
      simp only [Act.put, SL];refine Ws 2 (.pointer (some ⟨x, 0, none⟩)) HS ?_ ?_
      ·intro w9
       go_simp
      simp only [Act.put, SL];refine Ws 3 (.pointer (some ⟨x, 1, none⟩)) HS ?_ ?_
      ·intro w9
       go_simp
      simp only [Act.put, SL];refine Wt 4 (.slice (some ⟨vb, vo, vp⟩) q vc) HS ?_ ?_
      ·rintro w9 ⟨s0, s1, s2⟩
       go_simp
      simp only [Act.put, SL];refine Ws 5 (.pointer (some ⟨x, 0, none⟩)) HS ?_ ?_
      ·intro w9
       go_simp
      simp only [Act.put, SL];refine Ws 6 (.pointer (some ⟨x, 0, none⟩)) HS ?_ ?_
      ·intro w9
       go_simp
      simp only [Act.put, SL];refine Ws 7 (.pointer (some ⟨x, 1, none⟩)) HS ?_ ?_
      ·intro w9
       go_simp
      simp only [Act.put, SL];refine Wt 8 (.slice (some ⟨vb, vo, vp⟩) q vc) HS ?_ ?_
      ·rintro w9 ⟨s0, s1, s2⟩
       go_simp
      simp only [Act.put, SL];refine Ws 9 (.int .i64 (q : Int)) HS ?_ ?_
      ·intro w9
       go_simp
      simp only [Act.put, SL];refine Ws 10 (.pointer (some ⟨x, 0, none⟩)) HS ?_ ?_
      ·intro w9
       go_simp
      simp only [Act.put, SL];refine Ws 11 (.pointer (some ⟨x, 0, none⟩)) HS ?_ ?_
      ·intro w9
       go_simp
      simp only [Act.put, SL];refine Ws 12 (.pointer (some ⟨x, 1, none⟩)) HS ?_ ?_
      ·intro w9
       go_simp
      simp only [Act.put, SL];refine Wt 13 (.slice (some ⟨vb, vo, vp⟩) q vc) HS ?_ ?_
      ·rintro w9 ⟨s0, s1, s2⟩
       go_simp
      simp only [Act.put, SL];refine Ws 14 (.int .i64 (q : Int)) HS ?_ ?_
      ·intro w9
       go_simp
      simp only [Act.put, SL];refine Ws 15 (.slice (some ⟨vb, vo, vp⟩) q q) HS ?_ ?_
      ·intro w9
       go_simp
      simp only [Act.put, SL];refine Ws 16 (.int .i64 (n : Int)) HS ?_ ?_
      ·intro w9
       go_simp
      simp only [Act.put, SL];refine Ws 17 (.pointer (some ⟨x, 0, none⟩)) HS ?_ ?_
      ·intro w9
       go_simp
      simp only [Act.put, SL];refine Ws 18 (.pointer (some ⟨x, 0, none⟩)) HS ?_ ?_
      ·intro w9
       go_simp
      simp only [Act.put, SL];refine Ws 19 (.pointer (some ⟨x, 0, none⟩)) HS ?_ ?_
      ·intro w9
       go_simp
      simp only [Act.put, SL];refine Wt 20 (.slice (some ⟨g, 0, none⟩) m cap) HS ?_ ?_
      ·rintro w9 ⟨s0, s1, s2⟩
       go_simp
      simp only [Act.put, SL];refine Ws 21 (.int .i64 (n : Int)) HS ?_ ?_
      ·intro w9
       go_simp
      simp only [Act.put, SL];refine Ws 22 (.pointer (some ⟨g, n, none⟩)) HS ?_ ?_
      ·intro w9
       go_simp
      simp only [Act.put, SL];refine Wt 23 (.string X) HS ?_ ?_
      ·rintro w9 ⟨s0, s1, s2⟩
       go_simp
      simp only [Act.put, SL];refine Ws 24 (.agg #[.int .i64 (n : Int), .string X]) HS ?_ ?_
      ·intro w9
       go_simp
      simp only [Act.put, SL];refine Wp 25 (fun K HK => ?_);go_simp;refine HK.out _ _ ?_ (fun _ => ⟨k0, k1, k2⟩);clear HK K;refine Wp 26 (fun K HK => ?_);refine step_append_run (by rfl) (.tmp 91) (.tmp 101) 165 (by rfl) _ _ _ (by rfl) (by rfl) hap ?_;refine HK.out _ _ ?_ (fun _ => ⟨e0, e1, e2⟩);clear HK K;simp only [Act.put, SL];have HS2 : w2.cell? ⟨x, 0, none⟩ = some (.slice (some ⟨g, 0, none⟩) m cap) ∧ w2.cell? ⟨x, 1, none⟩ = some (.slice (some ⟨vb, vo, vp⟩) q vc) ∧ w2.cell? ⟨g, n, none⟩ = some (.string X) := ⟨e0, e1, e2⟩
      refine Ws 27 (.pointer (some ⟨x, 0, none⟩)) HS2 ?_ ?_
      ·intro w9
       go_simp
      simp only [Act.put, SL];refine Ws 28 (.pointer (some ⟨x, 1, none⟩)) HS2 ?_ ?_
      ·intro w9
       go_simp
      simp only [Act.put, SL];refine Wp 29 (fun K HK => ?_);go_simp;refine HK.out _ _ ?_ (fun h => absurd rfl h);clear HK K;refine ways_done (by kernel_rfl) ?_;go_wp2_with fail;go_ret;exact ⟨rfl, FIN.out⟩
    ·obtain ⟨cs, fs⟩ := H1.out.sec2 hm'.out n hn
     have FINeq : ({ st1 with S := st1.S.set n s.data.toList } : DkS) = st.wrote n s.data.toList := by rw [WM.out (by rw [← hL1'.out]; exact hall.out), ← hS1'.out, ← hst1'.out]
     have FIN : Hid (RkPost w x (st.wrote n s.data.toList) F (wr.setCell ⟨g, n, none⟩ (.string s))) := Hd (by
      rw [← FINeq];exact RkPost.of (H1.out.setSec2 hm'.out n s hs) (HF.out.setCell _ _ (.inl (hFs.out g (.inr (.inl rfl))))) (fun k hk => .inl (hFs.out k hk)))
     clear FINeq;go_wp2_with fail;go_ret;exact ⟨rfl, FIN.out⟩
theorem refWrite_any (w : World) (x : Nat) (st : DkS) (F : Nat → Prop) (h : Rk w x st F) (i : Int) (s : ByteArray) :
  Calls Tryz.prog 103 #[.pointer (some ⟨x, 0, none⟩), .int .i64 i, .string s] w fun e w' => e = .returned (.int .i64 (st.write i s.data.toList).2) ∧ RkPost w x (st.write i s.data.toList).1 F w' := by
 have hl : s.data.toList.length = s.size := by simp
 unfold DkS.write;rw [hl]
 cases hu : st.up
 ·rw [if_pos rfl]
  exact (refWrite_down w x st F h i s hu).mono fun e w' hw => ⟨hw.1, hw.2 ▸ RkPost.same h⟩
 ·rw [if_neg (by simp)]
  cases hc : (decide (0 ≤ i) && decide (i < (st.S.length : Int)) && decide (s.size = 256))
  ·rw [if_pos rfl]
   refine (refWrite_arg w x st F h i s hu ?_).mono fun e w' hw => ⟨hw.1, hw.2 ▸ RkPost.same h⟩
   by_cases h0 : i < 0
   ·exact .inl h0
   ·by_cases h1 : (st.S.length : Int) ≤ i
    ·exact .inr (.inl ⟨by omega, h1⟩)
    ·refine .inr (.inr ⟨by omega, by omega, ?_⟩)
     have hs : ¬ s.size = 256 := fun e => by
      rw [decide_eq_true (show 0 ≤ i by omega), decide_eq_true (show i < (st.S.length : Int) by omega), decide_eq_true e] at hc
      cases hc
     have h2 : ((s.size : Int) == 256) = false := by simpa using (fun e : (s.size : Int) = 256 => hs (by omega))
     simp [bne, h2]
  ·rw [if_neg (by simp)]
   simp only [Bool.and_eq_true, decide_eq_true_eq] at hc;obtain ⟨n, rfl⟩ := Int.eq_ofNat_of_zero_le hc.1.1
   by_cases hf : st.fuse = 0
   ·rw [if_pos hf]
    exact refWrite_blown w x st F h n s hu (by omega) hc.2 hf
   ·rw [if_neg hf]
    exact refWrite_yes w x st F h n s hu (by omega) hc.2 hf
def RMade (w : World) (st : DkS) (e : Ending) (w' : World) : Prop := ∃ (x : Nat) (F : Nat → Prop), e = .returned (.pointer (some ⟨x, 0, none⟩)) ∧ Rk w' x st F ∧ Below w.heap.size w w' ∧ ∀ k, F k → w.heap.size ≤ k
theorem str_info : ∃ i, Tryz.prog.info? 9 = some i ∧ i.zero = some (.string ByteArray.empty) ∧ i.size = 1 ∧ i.bytes = 16 := by
 have : (Tryz.prog.info? 9).map (fun i => (i.zero, i.size, i.bytes)) = some (some (.string ByteArray.empty), 1, 16) := by kernel_rfl
 cases hq : Tryz.prog.info? 9 with
 | none => rw [hq] at this; cases this
 | some i =>
  rw [hq] at this;simp only [Option.map_some, Option.some.injEq, Prod.mk.injEq] at this;exact ⟨i, rfl, this.1, this.2.1, this.2.2⟩
structure Making (w wr : World) (x : Nat) (vs : Value) (j : Nat) (Z : ByteArray) : Prop where
 cell : wr.heap[x]? = some (.cells #[vs, .slice none 0 0, .int .i64 (-1), .bool false] 167 (0, 0))
 row : wr.ownsRow (x + 1) 9 1 vs j (List.replicate j (.string Z))
 frm : Frm (fun _ => False) w wr
 hx : w.heap.size ≤ x
theorem Making.step {w wr : World} {x : Nat} {vs : Value} {j : Nat} {Z : ByteArray} (h : Making w wr x vs j Z) (hj : j ≤ 640) (w2 : World) (hb : Below wr.heap.size wr w2) :
  ∃ v' w5, (Builtin.append_ #[95, 95] 95 #[vs, .slice (some ⟨w2.heap.size, 0, none⟩) 1 1]).run Tryz.prog (w2.alloc (.cells #[.string Z] 9)) = .ok v' w5 ∧
   w5.cell? ⟨x, 0, none⟩ = some vs ∧ w5.frozen? ⟨x, 0, none⟩ = false ∧ Making w (w5.setCell ⟨x, 0, none⟩ v') x v' (j + 1) Z := by
 obtain ⟨i, hi, hz, hsize, hby⟩ := str_info;have hxl : x < wr.heap.size := (zl h.cell);obtain ⟨w4, hw4⟩ : ∃ w4, w2.alloc (.cells #[.string Z] 9) = w4 := ⟨_, rfl⟩
 have hb4 : Below wr.heap.size wr w4 := by rw [← hw4]; exact hb.alloc hb.size _
 have hrow : w4.ownsRow (x + 1) 9 1 vs j (List.replicate j (.string Z)) := ownsRow_keptN h.row fun k hk => hb4.block k (h.row.lt k hk).2
 have hnews : ∀ k u, [Value.string Z][k]? = some u → w4.cell? ((⟨w2.heap.size, 0, none⟩ : Addr).add k) = some u := by
  intro k u hk
  cases k with
  | zero =>
   rw [addr_add, ← hw4, World.cell?_alloc_new]
   simpa using hk
  | succ k => simp at hk
 obtain ⟨v', w5, hr, ho, hg, hnil⟩ := run_append_own (P := Tryz.prog) w4 (x + 1) 95 95 9 i _ 1 16 Tryz.underlying95 hi hz hsize hby rfl (by decide) vs j _ hrow ⟨w2.heap.size, 0, none⟩ 1 1 [.string Z] rfl hnews (by intro u hu; rw [List.mem_singleton.1 hu]; rfl) (by unfold maxLen; omega) (by omega) (by have := hb4.size; omega);have hvx : ∀ k, vs.ownBlock = some k → x + 1 ≤ k := fun k hk => (h.row.lt k hk).1
 have hc5 : w5.heap[x]? = some (.cells #[vs, .slice none 0 0, .int .i64 (-1), .bool false] 167 (0, 0)) := by
  rw [hg.block x (by have := hb4.size; omega) (fun e => by have := hvx x e.symm; omega), hb4.block x hxl];exact h.cell
 refine ⟨v', w5, by rw [hw4]; exact hr, by rw [cell_of_row w5 x 0 _ _ _ hc5]; rfl, frozen_of_row w5 x 0 _ _ hc5, ?_, ?_, ?_, h.hx⟩
 ·rw [hss w5 x 0 _ _ _ hc5]
  rfl
 ·have := ownsRow_keptN (w' := w5.setCell ⟨x, 0, none⟩ v') ho fun k hk => heap_setCell_other _ _ k _ (fun e => by
   have h1 := (ho.lt k hk).1;have e : k = x := e;omega)
  rw [List.replicate_succ'];exact this
 ·refine Frm.setCell (Frm.grown (h.frm.trans (G := fun _ => False) (Frm.of_below hb4) fun _ hx => hx.elim) hg fun k hk => .inr ?_) _ _ (.inr h.hx)
  have := hvx k hk;have := h.hx;omega
theorem Making.done {w wr : World} {x : Nat} {vs : Value} {n : Nat} {Z : ByteArray} (h : Making w wr x vs n Z) (hZ : Str zs = Z) (h8 : 8 ≤ n) (hn : n ≤ 640) : RMade w (DkS.fresh n) (.returned (.pointer (some ⟨x, 0, none⟩))) wr := by
 have hx := h.hx;have hvx : ∀ k, vs.ownBlock = some k → x + 1 ≤ k := fun k hk => (h.row.lt k hk).1
 refine ⟨x, RkF x vs (.slice none 0 0), rfl, ⟨vs, _, ?_, fun _ => Iff.rfl⟩, h.frm.below (fun _ hx => hx.elim) (Nat.le_refl _), fun k hk => ?_⟩
 ·refine ⟨h.cell, ?_, World.ownsRow_nil _ _ _ _, (fun e => by have := hvx x e; omega), (fun e => by cases e), (fun k _ e => by cases e), fresh_ok n h8 hn⟩
  have := ownsRow_base h.row;have e1 : (DkS.fresh n).S.length = n := List.length_replicate
  have e2 : ((DkS.fresh n).S.map fun s => Value.string (Str s)) = List.replicate n (.string Z) := by
   show (List.replicate n zs).map _ = _
   rw [List.map_replicate, hZ]
  rw [e1, e2];exact this
 ·rcases hk with rfl | hk | hk
  ·exact hx
  ·have := hvx k hk; omega
  ·cases hk
theorem refNew_yes (w : World) (n : Nat) (h8 : 8 ≤ n) (hn : n ≤ 640) :
  Calls Tryz.prog 71 #[.int .i64 (n : Int)] w (RMade w (DkS.fresh n)) := by
 obtain ⟨Z, HZ⟩ : ∃ Z, Hid (Str zs = Z) := ⟨_, Hd rfl⟩
 have hni : (n : Int) ≤ 640 := by omega
 have hn8 : 8 ≤ (n : Int) := by omega
 obtain ⟨x, hx⟩ : ∃ x, w.heap.size = x := ⟨_, rfl⟩
 have M0 : Hid (Making w (w.alloc (.cells #[.slice none 0 0, .slice none 0 0, .int .i64 (-1), .bool false] 167)) x (.slice none 0 0) 0 Z) := Hd ⟨by rw [← hx]; exact han _ _, World.ownsRow_nil _ _ _ _, (Frm.refl _ _).alloc _, by omega⟩;go_enter Tryz.func71, Tryz.ntmps71;go_wp2_with fail
 go_loopw [4] (fun i wr => ∃ (j : Nat) (vs : Value), j ≤ n ∧ i = .int .i64 (j : Int) ∧ Hid (Making w wr x vs j Z)) (fun i _ => n + 1 - (intOf i).toNat)
 case atStart => exact ⟨0, _, by omega, rfl, M0⟩
 case round =>
  obtain ⟨j, vs, hj, rfl, HM⟩ := hrel
  by_cases hlt : j < n
  ·have hji : (j : Int) < (n : Int) := by omega
   have c0 : wr.cell? ⟨x, 0, none⟩ = some vs := by rw [cell_of_row wr x 0 _ _ _ HM.out.cell]; rfl
   obtain ⟨w2, hmk, hrow, hbel⟩ := made_bytes wr.drew 256 256 (Nat.le_refl _) (by decide);have hmk' : (Instr.makeSlice 62 (.int .i64 256) (.int .i64 256)).run Tryz.prog wr.drew = .ok (.slice (some ⟨wr.heap.size, 0, none⟩) 256 256) w2 := hmk;have hcv := hrow.conv 256 256 (by rw [List.length_replicate]; exact Nat.le_refl _)
   have hz2 : Str ((List.replicate 256 (0 : UInt8)).take 256) = Z := by
    rw [List.take_of_length_le (by rw [List.length_replicate]; exact Nat.le_refl _)];exact HZ.out
   rw [hz2] at hcv;have hcv' : (convert 62 9 (.slice (some ⟨wr.heap.size, 0, none⟩) 256 256)).run Tryz.prog w2 = .ok (.string Z) w2 := hcv;have hb2 : Below wr.heap.size wr w2 := (Below.refl _ wr).drew.trans hbel;obtain ⟨v', w5, hap, c5, f5, HM5⟩ := HM.out.step (by omega) w2 hb2
   obtain ⟨kb, kc, rfl⟩ : ∃ kb kc, v' = .slice (some ⟨kb, 0, none⟩) (j + 1) kc := by
    rcases HM5.row.2 with ⟨_, h2⟩ | ⟨kb, kc, cur, hv, _⟩
    ·omega
    ·exact ⟨kb, kc, hv⟩
   have HM6 := Hd HM5;have hxl : x < wr.heap.size := (zl HM.out.cell);have k2 : w2.cell? ⟨x, 0, none⟩ = some vs := by rw [World.cell?_of_block (hb2.block x hxl)]; exact c0
   have k3 : (w2.alloc (.cells #[.string Z] 9)).cell? ⟨x, 0, none⟩ = some vs := by
    rw [World.cell?_of_block ((hb2.alloc hb2.size _).block x hxl)]; exact c0
   clear hmk hrow hbel hcv hz2 hb2 HM5 hx;go_wp2_with fail;refine region_ways (fun w' => w'.cell? ⟨x, 0, none⟩ = some vs) 11 (by kernel_rfl) ?_;have HS : wr.drew.cell? ⟨x, 0, none⟩ = some vs := c0;refine Ws 0 (.pointer (some ⟨x, 0, none⟩)) HS ?_ ?_
   ·intro w9
    go_simp
   simp only [Act.put, SL];refine Ws 1 (.pointer (some ⟨x, 0, none⟩)) HS ?_ ?_
   ·intro w9
    go_simp
   simp only [Act.put, SL];refine Ws 2 (.pointer (some ⟨x, 0, none⟩)) HS ?_ ?_
   ·intro w9
    go_simp
   simp only [Act.put, SL];refine Ws 3 (.pointer (some ⟨x, 0, none⟩)) HS ?_ ?_
   ·intro w9
    go_simp
   simp only [Act.put, SL];refine Wt 4 (vs) HS ?_ ?_
   ·intro w9 s0
    go_simp
   simp only [Act.put, SL];refine Wp 5 (fun K HK => ?_);go_simp;refine HK.out _ _ ?_ (fun _ => k2);clear HK K;refine Wp 6 (fun K HK => ?_);go_simp;refine HK.out _ _ ?_ (fun _ => k2);clear HK K;refine Wp 7 (fun K HK => ?_);go_simp;refine HK.out _ _ ?_ (fun _ => k3);clear HK K;refine Wp 8 (fun K HK => ?_);refine step_append_run (by rfl) (.tmp 22) (.tmp 25) 95 (by rfl) _ _ _ (by rfl) (by rfl) hap ?_;refine HK.out _ _ ?_ (fun _ => c5);clear HK K;simp only [Act.put, SL];refine Ws 9 (.pointer (some ⟨x, 0, none⟩)) c5 ?_ ?_
   ·intro w9
    go_simp
   simp only [Act.put, SL];refine Ws 10 (.pointer (some ⟨x, 0, none⟩)) c5 ?_ ?_
   ·intro w9
    go_simp
   simp only [Act.put, SL];refine Wp 11 (fun K HK => ?_);go_simp;refine HK.out _ _ ?_ (fun h => absurd rfl h);clear HK K;refine ways_done (by kernel_rfl) ?_;go_wp2_with fail;go_roundw
   case rel => exact ⟨j + 1, _, by omega, by go_num, HM6⟩
   case measure => simp [intOf]; omega
  ·have hji : ¬ (j : Int) < (n : Int) := by omega
   have FIN := Hd (Making.done (by have := HM.out; rw [show j = n by omega] at this; exact this) HZ.out h8 hn);go_wp2_with fail;go_ret;exact FIN.out
theorem RkIn.setNil {w : World} {x : Nat} {vs vl : Value} {st : DkS} (h : RkIn w x vs vl st) : RkIn (w.setCell ⟨x, 1, none⟩ (.slice none 0 0)) x vs (.slice none 0 0) { st with L := [] } :=
  ⟨by rw [hss w x 1 _ _ _ h.cell]; rfl, ownsRow_keptN h.secs fun k hk => heap_setCell_other _ _ k _ (fun e => h.sx (by rw [hk, e])), World.ownsRow_nil _ _ _ _, h.sx, (fun e => by cases e), (fun k _ e => by cases e),
   { lens := h.ok.lens, had := fun p hp => (by cases hp), keys := List.nodup_nil, few := h.ok.few, least := h.ok.least, fuse0 := h.ok.fuse0, fuse1 := h.ok.fuse1 }⟩
theorem refSync_any (w : World) (x : Nat) (st : DkS) (F : Nat → Prop) (h : Rk w x st F) :
    Calls Tryz.prog 75 #[.pointer (some ⟨x, 0, none⟩)] w fun e w' => e = .returned (.int .i64 st.sync.2) ∧ RkPost w x st.sync.1 F w' := by
  obtain ⟨vs, vl, hi, he⟩ := h;obtain ⟨_, c1, _, c3⟩ := hi.cells;have f1 := hi.free 1;unfold DkS.sync
  cases hu : st.up
  · rw [if_pos rfl];rw [hu] at c3;have FIN := Hd (RkPost.same ⟨vs, vl, hi, he⟩);clear hi he hu;go_enter Tryz.func75, Tryz.ntmps75;go_wp2_with fail;go_ret;exact ⟨rfl, FIN.out⟩
  · rw [if_neg (by decide)];rw [hu] at c3
    have FIN0 : Hid (RkPost w x { st with L := [] } F (w.setCell ⟨x, 1, none⟩ (.slice none 0 0))) := Hd (RkPost.of hi.setNil ((Frm.refl _ _).setCell _ _ (.inl ((he x).2 (.inl rfl)))) (fun k hk => by
      rcases hk with hk | hk | hk
      · exact .inl ((he k).2 (.inl hk))
      · exact .inl ((he k).2 (.inr (.inl hk)))
      · cases hk))
    have FIN : Hid (RkPost w x { S := st.S, L := [], fuse := st.fuse, up := true } F (w.setCell ⟨x, 1, none⟩ (.slice none 0 0))) := Hd (by have := FIN0.out; rw [hu] at this; exact this);clear hi he hu FIN0;go_enter Tryz.func75, Tryz.ntmps75;go_wp2_with fail;go_ret;exact ⟨rfl, FIN.out⟩
theorem Rk.keptB {w w' : World} {x : Nat} {st : DkS} {F : Nat → Prop} (h : Rk w x st F) (hk : ∀ k, F k → w'.heap[k]? = w.heap[k]?) : Rk w' x st F := by
  obtain ⟨vs, vl, hi, he⟩ := h;exact ⟨vs, vl, hi.kept fun k hF => hk k ((he k).2 hF), he⟩
theorem Rk.ltB {w : World} {x : Nat} {st : DkS} {F : Nat → Prop} (h : Rk w x st F) (k : Nat) (hk : F k) : k < w.heap.size := by
  obtain ⟨vs, vl, hi, he⟩ := h;exact hi.lt k ((he k).1 hk)
def refArr (m size : Nat) : Nat → Array Value
 | 0 => (List.replicate size (.int .u8 0)).toArray
 | k + 1 => (refArr m size k).setIfInBounds (size - 1 - k) (.int .u8 (((m / 256 ^ k : Nat) : Int) % 256))
theorem refArr_size (m size k : Nat) : (refArr m size k).size = size := by
 induction k with
 | zero => simp [refArr]
 | succ k ih => simp [refArr, ih]
theorem refArr_at (m size k j : Nat) (hj : j < size) : ∃ v, (refArr m size k)[j]? = some v :=
 ⟨(refArr m size k)[j]'(by rw [refArr_size]; omega), Array.getElem?_eq_getElem _⟩
theorem refArr_get (m size k j : Nat) (hk : k ≤ size) (hj : j < size) (hjk : size - 1 - j < k) :
  (refArr m size k)[j]? = some (.int .u8 (((m / 256 ^ (size - 1 - j) : Nat) : Int) % 256)) := by
 induction k with
 | zero => omega
 | succ k ih =>
  rw [refArr]
  by_cases e : j = size - 1 - k
  ·have ek : size - 1 - j = k := by omega
   rw [ek, ← e, Array.getElem?_setIfInBounds_self_of_lt (by rw [refArr_size]; omega)]
  ·rw [Array.getElem?_setIfInBounds_ne (by omega)]
   exact ih (by omega) (by omega)
theorem refArr_be (m size j : Nat) (hj : j < (M.be size m).length) :
  (refArr m size size)[j]? = some (.int .u8 (((M.be size m)[j]).toNat : Int)) := by
 have hj' : j < size := by rwa [M.be_length] at hj
 rw [refArr_get _ _ _ _ (Nat.le_refl _) hj' (by omega)];have := M.be_get size m j hj';rw [List.getElem?_eq_getElem hj] at this;rw [Option.some.inj this, UInt8.toNat_ofNat', Nat.mod_mod_of_dvd _ (by decide)];simp
theorem refMake (size : Nat) (h : size ≤ 8) (W : World) : (Instr.makeSlice 62 (.int .i64 (size : Int)) (.int .i64 (size : Int))).run Tryz.prog W =
  .ok (.slice (some ⟨W.heap.size, 0, none⟩) size size) (W.alloc (.cells (refArr 0 size 0) 5)) := by
 have hinfo : (Tryz.prog.info? 5).map (fun i => (i.zero, i.size, i.bytes)) = some (some (.int .u8 0), 1, 1) := by kernel_rfl
 obtain ⟨i0, hi, hz0, hz1, hz2⟩ := info_parts hinfo;have := run_make (P := Tryz.prog) W 62 5 i0 (.int .u8 0) Tryz.underlying62 hi hz0 .i64 .i64 size size (by omega) (by omega) (by rw [hz2]; omega) (by omega);rw [this, hz1]
 have e : madeCells (Value.int .u8 0).cells (size * 1) = refArr 0 size 0 := by
  apply Array.toList_inj.1;rw [show (Value.int .u8 0).cells = #[.int .u8 0] from rfl, toList_madeCells_one];simp [refArr]
 simp only [Int.toNat_natCast, e]
theorem div_step (m k : Nat) : (m : Int) / 256 ^ k / 256 = ((m / 256 ^ (k + 1) : Nat) : Int) := by
 rw [Nat.pow_succ, ← Nat.div_div_eq_div_mul]; simp
theorem refPut_ok (m : Nat) (size : Nat) (w : World) (_hmm : m ≤ 18446744073709551615) (h1 : 1 ≤ size) (h8 : size ≤ 8) (hf : size < 8 → m / 2 ^ (8 * size) = 0) :
  Calls Tryz.prog 104 #[.int .u64 (m : Int), .int .i64 size] w fun e w' => e = .returned (.tuple #[.string (Str (M.be size m)), .bool true]) ∧ Below w.heap.size w w' := by
 have hf' : size < 8 → (m : Int) / 2 ^ (8 * size) = 0 := fun h => by have := hf h; exact_mod_cast this
 have hcells := fun j hj => refArr_be m size j hj
 have hconv := run_convert_bytes_back (P := Tryz.prog) (w.alloc (.cells (refArr m size size) 5)) 62 9 5 ⟨w.heap.size, 0, none⟩ size (M.be size m) Tryz.underlying62 Tryz.underlying5 Tryz.underlying9 (fun j hj => by
  have := hcells j hj;rw [show (⟨w.heap.size, 0, none⟩ : Addr).add j = ⟨w.heap.size, j, none⟩ by unfold Addr.add; split <;> simp_all];rw [← this]; simp)
 rw [M.be_length] at hconv;have HC := Hd hconv;have HMK := refMake size h8;have HF := Hd hf';clear hconv hcells hf hf'
 by_cases hs : size < 8
 all_goals
  have h2 := HF.out
  first | (have h3 := h2 hs; clear h2) | clear h2
  go_enter Tryz.func104, Tryz.ntmps104;go_wp2_with fail
  go_loopw [0, 7] (fun n i wr => ∃ k : Nat, k ≤ size ∧ i = .int .i64 ((size : Int) - 1 - k) ∧ n = .int .u64 ((m / 256 ^ k : Nat) : Int) ∧ wr = w.alloc (.cells (refArr m size k) 5)) (fun _ i _ => (intOf i + 1).toNat)
  case atStart => exact ⟨0, Nat.zero_le _, by simp, by simp, rfl⟩
  case round =>
   obtain ⟨k, hk, rfl, rfl, rfl⟩ := hrel
   by_cases hlt : k < size
   ·obtain ⟨v, hv⟩ := refArr_at m size k (size - 1 - k) (by omega)
    go_wp2
    go_roundw
    case rel => exact ⟨k + 1, by omega, by go_num, by rw [div_step], rfl⟩
    case measure => simp [intOf]; omega
   ·obtain rfl : k = size := by omega
    have hconv := HC.out
    go_wp2
    go_ret2;exact ⟨rfl, Br.alloc (Nat.le_refl _) _⟩
theorem refPut_size (n size : Int) (w : World) (h : ¬ (1 ≤ size ∧ size ≤ 8)) :
  Calls Tryz.prog 104 #[.int .u64 n, .int .i64 size] w fun e w' => e = .returned (.tuple #[.string ⟨#[]⟩, .bool false]) ∧ w = w' := by
 have h' : size < 1 ∨ 8 < size := by omega
 clear h
 rcases h' with h | h
 all_goals
  go_enter Tryz.func104, Tryz.ntmps104
  go_wp2
  go_ret2;exact ⟨rfl, rfl⟩
theorem refPut_wide (n : Int) (size : Nat) (w : World) (h1 : 1 ≤ size) (h8 : size < 8) (hf : 0 < n / 2 ^ (8 * size)) :
  Calls Tryz.prog 104 #[.int .u64 n, .int .i64 size] w fun e w' => e = .returned (.tuple #[.string ⟨#[]⟩, .bool false]) ∧ w = w' := by
 go_enter Tryz.func104, Tryz.ntmps104
 go_wp2
 go_ret2;exact ⟨rfl, rfl⟩
theorem refPut_any (n size : Int) (w : World) (h0 : 0 ≤ n) (hm : n ≤ 18446744073709551615) :
  Calls Tryz.prog 104 #[.int .u64 n, .int .i64 size] w fun e w' => e = .returned (.tuple #[.string (Str (putL n size)), .bool (putOk n size)]) ∧ Below w.heap.size w w' := by
 obtain ⟨m, rfl⟩ := Int.eq_ofNat_of_zero_le h0
 by_cases h : 1 ≤ size ∧ size ≤ 8
 ·obtain ⟨s, rfl⟩ := Int.eq_ofNat_of_zero_le (show 0 ≤ size by omega)
  cases hk : putOk (m : Int) (s : Int)
  ·have hf : ¬ m / 2 ^ (8 * s) = 0 := by
    intro hf;simp only [putOk, h, and_self, decide_true, Bool.true_and, beq_eq_false_iff_ne, show (8 * (s : Int)).toNat = 8 * s by omega] at hk;apply hk
    exact_mod_cast hf
   have h8 : s < 8 := by
    rcases Nat.lt_or_ge s 8 with h' | h'
    ·exact h'
    ·exfalso
     apply hf;apply Nat.div_eq_of_lt;have e : s = 8 := by omega
     subst e;have e : (2 : Nat) ^ (8 * 8) = 18446744073709551616 := by simp
     rw [e]; omega
   have hf' : 0 < (m : Int) / 2 ^ (8 * s) := by
    have : 0 < m / 2 ^ (8 * s) := Nat.pos_of_ne_zero hf
    exact_mod_cast this
   refine (refPut_wide m s w (by omega) h8 hf').mono ?_;rintro e w' ⟨rfl, rfl⟩;exact ⟨by simp [putL, hk, Str], Br⟩
  ·have hf : m / 2 ^ (8 * s) = 0 := by
    simp only [putOk, Bool.and_eq_true, beq_iff_eq, show (8 * (s : Int)).toNat = 8 * s by omega] at hk
    exact_mod_cast hk.2
   refine (refPut_ok m s w (by omega) (by omega) (by omega) (fun _ => hf)).mono ?_;rintro e w' ⟨rfl, hb⟩;exact ⟨by simp [putL, hk], hb⟩
 ·refine (refPut_size _ size w h).mono ?_
  rintro e w' ⟨rfl, rfl⟩;have hk : putOk (m : Int) size = false := by simp [putOk, h]
  exact ⟨by simp [putL, hk, Str], Br⟩
theorem RkPost.step {w w1 w2 : World} {x : Nat} {st : DkS} {F : Nat → Prop} (hb : Below w.heap.size w w1) (h : RkPost w1 x st F w2) : RkPost w x st F w2 := by
 obtain ⟨F', h1, h2, h3⟩ := h;refine ⟨F', h1, (Frm.of_below (F := F) hb).trans h2 (fun k hk => .inl hk), fun k hk => ?_⟩
 rcases h3 k hk with hx | hx
 ·exact .inl hx
 ·exact .inr (Nat.le_trans hb.size hx)
theorem Rk.below {w w' : World} {x : Nat} {st : DkS} {F : Nat → Prop} (h : Rk w x st F) (hb : Below w.heap.size w w') : Rk w' x st F := h.keptB fun k hk => hb.block k (h.ltB k hk)
theorem rkPgWrite (w : World) (x : Nat) (sx : DkS) (F : Nat → Prop) (h : Rk w x sx F) (n k : Int) (t : ByteArray) (hb : sealB k t = true) :
  Calls Tryz.prog 72 #[.pointer (some ⟨x, 0, none⟩), .int .i64 n, .int .i64 k, .string t] w fun e w' => e = .returned (.int .i64 (pgWr sx n k t).2) ∧ RkPost w x (pgWr sx n k t).1 F w' := by
 have HP := Hd h;have S1 := Hd (fun w => refSeal_any k t w);unfold pgWr;clear h;rw [hb] at S1;rw [if_pos hb];generalize sealS k t = S at S1;clear hb;go_enter Tryz.func72, Tryz.ntmps72;go_wp2_with fail;refine (S1.out _).mono ?_;rintro e w1 ⟨rfl, b1⟩;have HP1 := Hd (HP.out.below b1);have B1 := Hd b1;clear b1;go_wp2_with fail;refine (refWrite_any _ _ _ _ HP1.out n S).mono ?_;rintro e w2 ⟨rfl, h2⟩;have HP2 := Hd (h2.step B1.out);clear h2;go_wp2_with fail;go_ret;exact ⟨rfl, HP2.out⟩
theorem refEmpty (w : World) :
  Calls Tryz.prog 74 #[] w fun e w' => e = .returned (.string (Str (List.replicate 80 0))) ∧ Below w.heap.size w w' := by
 have BN := Hd (fun w => refNew_any 640 w (by decide) (by decide));have hn : newN 640 = 80 := by decide
 rw [hn] at BN;generalize Str (List.replicate 80 (0 : UInt8)) = T at BN ⊢;clear hn;go_enter Tryz.func74, Tryz.ntmps74;go_wp2_with fail;refine (BN.out _).mono ?_;rintro e w1 ⟨rfl, b1⟩;go_wp2_with fail;go_ret;exact ⟨rfl, b1⟩
def fmtT : ByteArray := Str (putL 1 6) ++ Str (putL 0 2) ++ Str (List.replicate 80 0)
theorem fmtT_size : fmtT.size = 88 := by decide +kernel
theorem refHeadText (w : World) :
  Calls Tryz.prog 73 #[.int .i64 1, .int .i64 0, .string (Str (List.replicate 80 0))] w fun e w' => e = .returned (.string fmtT) ∧ Below w.heap.size w w' := by
 have P1 := Hd (fun w => refPut_any 1 6 w (by decide) (by decide));have P2 := Hd (fun w => refPut_any 0 2 w (by decide) (by decide));unfold fmtT;have z1 : (Str (putL 1 6)).size = 6 := by decide +kernel
 have z2 : (Str (putL 0 2)).size = 2 := by decide +kernel
 have z3 : (Str (List.replicate 80 (0 : UInt8))).size = 80 := by rw [Str_size]; rfl
 generalize Str (putL 1 6) = A at P1 z1 ⊢;generalize Str (putL 0 2) = B at P2 z2 ⊢;generalize Str (List.replicate 80 (0 : UInt8)) = T at z3 ⊢;generalize putOk 1 6 = o1 at P1;generalize putOk 0 2 = o2 at P2;go_enter Tryz.func73, Tryz.ntmps73;go_wp2_with fail;refine (P1.out _).mono ?_;rintro e w1 ⟨rfl, b1⟩;have B1 := Hd b1;clear b1;go_wp2_with fail;refine (P2.out _).mono ?_;rintro e w2 ⟨rfl, b2⟩;have B2 := Hd (chain B1.out b2);clear b2;go_wp2_with fail;go_ret;exact ⟨rfl, B2.out⟩
theorem fmt_seal : sealB 1 fmtT = true := by unfold sealB; rw [fmtT_size]; decide
theorem fmt_pg (n : Nat) (h8 : 8 ≤ n) (hn : n ≤ 640) : (pgWr (DkS.fresh n) 1 1 fmtT).2 = 0 ∧ (pgWr (DkS.fresh n) 1 1 fmtT).1.up = true := by
 have hw := pgWr_ok (DkS.fresh n) 1 1 fmtT rfl (by show (-1 : Int) ≠ 0; decide) (by show 1 < (List.replicate n zs).length; rw [List.length_replicate]; omega) (by decide) (by decide) (by rw [fmtT_size]; decide);have hw' : pgWr (DkS.fresh n) 1 1 fmtT = ((DkS.fresh n).wrote 1 (pgL 1 fmtT.data.toList), 0) := hw;rw [hw'];exact ⟨rfl, by rw [wrote_up]; rfl⟩
def RefMade (w : World) (F : Nat → Prop) (e : Ending) (w' : World) : Prop := ∃ r : Nat, e = .returned (.tuple #[.pointer (some ⟨r, 0, none⟩), .int .i64 0]) ∧ Frm F w w'
theorem refFormat (w : World) (x : Nat) (F : Nat → Prop) (n : Nat) (h8 : 8 ≤ n) (hn : n ≤ 640) (h : Rk w x (DkS.fresh n) F) :
  Calls Tryz.prog 44 #[.pointer (some ⟨x, 0, none⟩)] w (RefMade w F) := by
 have EM := Hd refEmpty;have HT := Hd refHeadText;have PW := Hd (fun w' (h' : Rk w' x (DkS.fresh n) F) => rkPgWrite w' x (DkS.fresh n) F h' 1 1 fmtT fmt_seal);obtain ⟨p1, p2⟩ := fmt_pg n h8 hn;rw [p1] at PW;have HU := Hd p2;have HR := Hd h;clear h p1 p2 h8 hn;generalize (pgWr (DkS.fresh n) 1 1 fmtT).1 = D at PW HU;generalize Str (List.replicate 80 (0 : UInt8)) = T at EM HT;generalize fmtT = U at HT PW;go_enter Tryz.func44, Tryz.ntmps44;go_wp2_with fail;refine (EM.out _).mono ?_;rintro e w1 ⟨rfl, b1⟩;have B1 := Hd b1;clear b1;go_wp2_with fail;refine (HT.out _).mono ?_;rintro e w2 ⟨rfl, b2⟩
 have B2 := Hd (chain B1.out b2);clear b2;have R2 := Hd (HR.out.below B2.out);go_wp2_with fail;refine (PW.out _ R2.out).mono ?_;rintro e w3 ⟨rfl, h3⟩;have H3 := Hd (h3.step B2.out);clear h3;obtain ⟨F3, r3, f3, n3⟩ := H3.out;have SY := Hd (refSync_any _ _ _ _ r3);have hs : D.sync.2 = 0 := by unfold DkS.sync; rw [HU.out]; rfl
 rw [hs] at SY;have HF3 := Hd f3;have HN3 := Hd n3;clear f3 n3 r3 hs H3;go_wp2_with fail;refine SY.out.mono ?_;rintro e w4 ⟨rfl, F4, r4, f4, n4⟩;have HF4 : Hid (Frm F w w4) := Hd (HF3.out.trans f4 HN3.out);clear r4 f4 n4 SY;go_wp2_with fail;refine (EM.out _).mono ?_;rintro e w5 ⟨rfl, b5⟩;have HF5 : Hid (Frm F w w5) := Hd (HF4.out.trans (G := fun _ => False) (Frm.of_below b5) fun _ h => h.elim);clear b5;go_wp2_with fail;refine (EM.out _).mono ?_;rintro e w6 ⟨rfl, b6⟩;have HF6 : Hid (Frm F w w6) := Hd (HF5.out.trans (G := fun _ => False) (Frm.of_below b6) fun _ h => h.elim);clear b6
 go_wp2_with fail;refine (EM.out _).mono ?_;rintro e w7 ⟨rfl, b7⟩;have HF7 : Hid (Frm F w w7) := Hd (HF6.out.trans (G := fun _ => False) (Frm.of_below b7) fun _ h => h.elim);clear b7;go_wp2_with fail;go_ret2;exact ⟨_, rfl, HF7.out.alloc _⟩
theorem ptr_neD (a : Addr) (w : World) : (binOp .neq 34 (.pointer (some a)) (.pointer none)).run Tryz.prog w = .ok (.bool true) w := by kernel_rfl
theorem ptr_nilX (a : Addr) (w : World) : (binOp .eql 35 (.pointer (some a)) (.pointer none)).run Tryz.prog w = .ok (.bool false) w := by kernel_rfl
theorem ptr_neR (a : Addr) (w : World) : (binOp .neq 37 (.pointer (some a)) (.pointer none)).run Tryz.prog w = .ok (.bool true) w := by kernel_rfl
theorem kept1B {w w1 : World} {o : Obj} (hb : Below (w.alloc o).heap.size (w.alloc o) w1) : w1.heap[w.heap.size]? = some o := (hb.block _ (by simp)).trans (han w o)
def DisR (w : World) (n : Nat) (e : Ending) (w' : World) : Prop := ∃ (d x : Nat) (FD FX : Nat → Prop), e = .returned (.tuple #[.pointer (some ⟨d, 0, none⟩), .pointer (some ⟨x, 0, none⟩), .bool true]) ∧ Dk w' d (DkS.fresh n) FD ∧ Rk w' x (DkS.fresh n) FX ∧ (∀ k, FD k → w.heap.size ≤ k ∧ ¬ FX k) ∧ (∀ k, FX k → w.heap.size ≤ k) ∧ Below w.heap.size w w'
theorem disks_is (w : World) (n : Nat) (h8 : 8 ≤ n) (hn : n ≤ 640) :
  Calls Tryz.prog 43 #[.int .i64 (n : Int)] w (DisR w n) := by
 have NY := Hd fun w => new_yes w n h8 hn
 have RN := Hd fun w => refNew_yes w n h8 hn
 clear h8 hn;go_enter Tryz.func43, Tryz.ntmps43;go_wp2_with fail;refine (NY.out _).mono ?_;rintro e w1 ⟨d, FD, rfl, hd, hb, hF⟩;have HD := Hd hd;have HB := Hd hb;have HF := Hd hF;have pn := ptr_neD ⟨d, 0, none⟩;clear hd hb hF NY;go_wp2_with fail;refine (RN.out _).mono ?_;rintro e w2 ⟨x, FX, rfl, hx, hb2, hFX⟩
 have FIN : Hid (DisR w n (.returned (.tuple #[.pointer (some ⟨d, 0, none⟩), .pointer (some ⟨x, 0, none⟩), .bool true])) w2) := by
  refine Hd ⟨d, x, FD, FX, rfl, HD.out.below hb2, hx, fun k hk => ⟨HF.out k hk, fun hX => ?_⟩, fun k hk => Nat.le_trans HB.out.size (hFX k hk), chain HB.out hb2⟩;have := HD.out.lt k hk;have := hFX k hX;omega
 clear hx hb2 hFX HD HB HF RN;go_wp2_with fail;go_ret3;exact FIN.out
theorem cells5 {w : World} {b : Nat} {v0 v1 v2 v3 v4 : Value} {T : TypeId} (h : w.heap[b]? = some (.cells #[v0, v1, v2, v3, v4] T)) : w.cell? ⟨b, 0, none⟩ = some v0 ∧ w.cell? ⟨b, 1, none⟩ = some v1 ∧ w.cell? ⟨b, 2, none⟩ = some v2 ∧ w.cell? ⟨b, 3, none⟩ = some v3 ∧ w.cell? ⟨b, 4, none⟩ = some v4 ∧ ∀ i, w.frozen? ⟨b, i, none⟩ = false := by
 refine ⟨?_, ?_, ?_, ?_, ?_, fun i => ufb h i⟩ <;> (rw [cob h]; rfl)
theorem set_frm {w : World} {b i : Nat} (v : Value) : Frm (fun k => k = b) w (w.setCell ⟨b, i, none⟩ v) := (Frm.refl _ w).setCell _ _ (.inl rfl)
theorem dk_fresh_len (n : Nat) : (DkS.fresh n).S.length = n := by show (List.replicate n zs).length = n; rw [List.length_replicate]
def hH (H : HdS) (dk : DkS) (st : ShS) : Prop := st.h = H
def hF (H : HdS) (dk : DkS) (st : ShS) : Prop := st.h = H ∧ st.fresh = [] ∧ st.given = []
def BegK (w : World) (n : Nat) (e : Ending) (w' : World) : Prop := ∃ b d x s r : Nat, e = .returned (.tuple #[.pointer (some ⟨b, 0, none⟩), .bool true]) ∧ w'.heap[b]? = some (.cells #[.pointer (some ⟨d, 0, none⟩), .pointer (some ⟨x, 0, none⟩), .pointer (some ⟨s, 0, none⟩), .pointer (some ⟨r, 0, none⟩), .int .i64 0] 39) ∧ w.heap.size ≤ b ∧ TrK (hH fmtH) 1 [] w [b] w' d s n 0 []
theorem begins_K (w : World) (n : Nat) (h8 : 8 ≤ n) (hn : n ≤ 640) :
  Calls Tryz.prog 14 #[.int .i64 (n : Int)] w (BegK w n) := by
 have DI := Hd fun w => disks_is w n h8 hn
 have FG := Hd (fmt_good (DkS.fresh n) rfl rfl (by rw [dk_fresh_len]; exact h8) (by rw [dk_fresh_len]; exact hn));have RF := Hd (fun w x F (h : Rk w x (DkS.fresh n) F) => refFormat w x F n h8 hn h);have CMN := Hd (cm_new n h8 hn);clear h8 hn;go_enter Tryz.func14, Tryz.ntmps14;go_wp2_with fail;refine (DI.out _).mono ?_;rintro e w1 ⟨d, x, FD, FX, rfl, hd, hx, hFD, hFX, hb⟩;have hz : (w.alloc (.cells #[.pointer none, .pointer none, .pointer none, .pointer none, .int .i64 0] 39)).heap.size = w.heap.size + 1 := by simp
 have K1 : w1.heap[w.heap.size]? = some (.cells #[.pointer none, .pointer none, .pointer none, .pointer none, .int .i64 0] 39) := kept1B hb;rw [hz] at hFD hFX;have HB1 : Hid (Below w.heap.size w w1) := Hd ((Br.alloc (Nat.le_refl _) _).trans (hb.mono (by omega)));obtain ⟨_, _, _, _, _, f1⟩ := cells5 K1;have f10 := f1 0;have f11 := f1 1;obtain ⟨w2, hw2⟩ : ∃ w2, (w1.setCell ⟨w.heap.size, 0, none⟩ (.pointer (some ⟨d, 0, none⟩))).setCell ⟨w.heap.size, 1, none⟩ (.pointer (some ⟨x, 0, none⟩)) = w2 := ⟨_, rfl⟩
 have K2 : w2.heap[w.heap.size]? = some (.cells #[.pointer (some ⟨d, 0, none⟩), .pointer (some ⟨x, 0, none⟩), .pointer none, .pointer none, .int .i64 0] 39) := by
  rw [← hw2, hss _ _ 1 _ _ _ (hss _ _ 0 _ _ _ K1)]
  rfl
 have F2 : Frm (fun k => k = w.heap.size) w1 w2 := by rw [← hw2]; exact (set_frm _).trans (set_frm _) fun _ h => .inl h
 have HD2 := Hd (hd.frm F2 fun k hk e => by have := (hFD k hk).1; omega);have HX2 := Hd (hx.keptB fun k hk => F2.block k (hx.ltB k hk) (fun e => by have := hFX k hk; omega));have HB2 : Hid (Below w.heap.size w w2) := Hd (HB1.out.trans (F2.below (fun k hk => by omega) HB1.out.size));have HFD := Hd hFD;have HFX := Hd hFX;have HK2 := Hd K2;obtain ⟨c20, c21, _, _, _, _⟩ := cells5 K2;have nX := ptr_nilX ⟨x, 0, none⟩;have L2 : Hid (w.heap.size < w2.heap.size) := Hd (zl K2);clear hd hx hFD hFX hb hz K1 f1 F2 K2 HB1;go_upto_region 4 with fail
 try rw [hw2]
 clear hw2;go_wp2_with fail;refine (format_is w2 d (DkS.fresh n) FD HD2.out).mono ?_;intro e w3 hp;obtain ⟨v, rfl, s, FS, FD', rfl, hds, hf3, hn3, hs3⟩ := hp.1 FG.out.1;have K3 := (hf3.block _ L2.out (fun h => by have := (HFD.out _ h).1; omega)).trans HK2.out;have HX3 := Hd (HX2.out.keptB fun k hk => hf3.block k (HX2.out.ltB k hk) (fun h => (HFD.out k h).2 hk));have HB3 : Hid (Below w.heap.size w w3) := Hd (HB2.out.trans (hf3.below (fun k hk => by have := (HFD.out k hk).1; omega) HB2.out.size));have HD3 := Hd hds
 have HN3 : Hid (∀ k, (FD' k ∨ FS k) → w.heap.size + 1 ≤ k ∧ ¬ FX k) := Hd (fun k hk => by
  have h2 := HX2.out.ltB k;have hL := L2.out
  rcases hk with hk | hk
  ·rcases hn3 k hk with h1 | h1
   ·exact HFD.out k h1
   ·exact ⟨by omega, fun hx => by have := h2 hx; omega⟩
  ·have h1 := hs3 k hk
   exact ⟨by omega, fun hx => by have := h2 hx; omega⟩)
 have HK3 := Hd K3;obtain ⟨_, c31, _, _, _, _⟩ := cells5 K3;clear hp hds hf3 hn3 hs3 K3 HD2 HX2 HB2 HK2 L2;have L3 : Hid (w.heap.size < w3.heap.size) := Hd (zl HK3.out);go_wp2_with fail;refine (RF.out w3 x FX HX3.out).mono ?_;rintro e w4 ⟨r, rfl, hf4⟩;have K4 := (hf4.block _ L3.out (fun h => by have := HFX.out _ h; omega)).trans HK3.out;have HD4 := Hd (show DS w4 d s (wrHead (DkS.fresh n) fmtH).1 (ShS.new fmtH) FD' FS from ⟨HD3.out.dk.frm hf4 (fun k hk => (HN3.out k (.inl hk)).2), HD3.out.sto.frm hf4 (fun k hk => (HN3.out k (.inr hk)).2), HD3.out.apart⟩)
 have HB4 : Hid (Below w.heap.size w w4) := Hd (HB3.out.trans (hf4.below (fun k hk => by have := HFX.out k hk; omega) HB3.out.size));obtain ⟨_, _, _, _, _, f4⟩ := cells5 K4;have f42 := f4 2;have f43 := f4 3;have sn := ptr_neS ⟨s, 0, none⟩;have rn := ptr_neR ⟨r, 0, none⟩;obtain ⟨w5, hw5⟩ : ∃ w5, (w4.setCell ⟨w.heap.size, 2, none⟩ (.pointer (some ⟨s, 0, none⟩))).setCell ⟨w.heap.size, 3, none⟩ (.pointer (some ⟨r, 0, none⟩)) = w5 := ⟨_, rfl⟩
 have K5 : w5.heap[w.heap.size]? = some (.cells #[.pointer (some ⟨d, 0, none⟩), .pointer (some ⟨x, 0, none⟩), .pointer (some ⟨s, 0, none⟩), .pointer (some ⟨r, 0, none⟩), .int .i64 0] 39) := by
  rw [← hw5, hss _ _ 3 _ _ _ (hss _ _ 2 _ _ _ K4)]
  rfl
 have F5 : Frm (fun k => k = w.heap.size) w4 w5 := by rw [← hw5]; exact (set_frm _).trans (set_frm _) fun _ h => .inl h
 have FIN : Hid (BegK w n (.returned (.tuple #[.pointer (some ⟨w.heap.size, 0, none⟩), .bool true])) w5) := by
  obtain ⟨g1, g2, g3, g4⟩ := FG.out;rw [dk_fresh_len] at g4;refine Hd ⟨w.heap.size, d, x, s, r, rfl, K5, Nat.le_refl _, HB4.out.trans (F5.below (fun k hk => by omega) HB4.out.size), fun k => FD' k ∨ FS k, ⟨_, _, [], ?_, g2, g3, g4, CMN.out, by decide, rfl⟩, fun k hk => by have := (HN3.out k hk).1; omega, fun k hk => ?_⟩
  ·refine SD.frm ⟨FD', FS, HD4.out, fun _ => Iff.rfl⟩ F5 fun k hk e => ?_
   have := (HN3.out k hk).1; omega
  ·rw [List.mem_singleton] at hk
   subst hk;exact ⟨(zl K5), fun h => by have := (HN3.out _ h).1; omega⟩
 clear hf4 f4 K4 K5 F5 HX3 HB3 HD3 HN3 HK3 L3 HD4 HB4 HFD HFX;go_upto_region 10 with fail
 try rw [hw5]
 clear hw5;go_wp2_with fail;go_ret2;exact FIN.out
section
variable {H : HdS} {gn : Int} {E0 : List Ent} {w0 : World} {R : List Nat} {w : World} {d s n : Nat} {root : Int} {E : List Ent}
theorem TrK.hh (h : TrK (hF H) gn E0 w0 R w d s n root E) : TrK (hH H) gn E0 w0 R w d s n root E := by
 obtain ⟨h1, F, ⟨dk, st, P0, a1, a2, a3, a4, a5, a6, a7⟩, h3, h4⟩ := h;exact ⟨h1, F, ⟨dk, st, P0, a1, a2, a3, a4, a5, a6, a7.1⟩, h3, h4⟩
theorem TrK.after {w' : World} {dk dk' : DkS} {st st' : ShS} {F : Nat → Prop} {P0 : List Int} {q : Int} {E' : List Ent} (hb : Below w0.heap.size w0 w) (G : Good dk st) (hl : dk.S.length = n) (hc : Cm dk st E0 P0) (hg : st.h.gen ≤ gn) (hz : st.h = H) (hF : ∀ k, F k → w0.heap.size ≤ k) (hR : ∀ k ∈ R, k < w.heap.size ∧ ¬ F k)
  (hp : SDPost w d s dk' st' F w') (hT : TreeI dk' st' q E') (hto : To dk st dk' st') : TrK (hH H) gn E0 w0 R w' d s n q E' ∧ KeptL R w w' := by
 obtain ⟨F', g1, g2, g3⟩ := hp;refine ⟨⟨hb.trans (g2.below hF hb.size), F', ⟨dk', st', P0, g1, hto.g, hT, hto.len.trans hl, hc.to G hto, by rw [hto.h]; exact hg, hto.h.trans hz⟩, fun k hk => (g3 k hk).elim (hF k) (fun hx => Nat.le_trans hb.size hx), fun k hk => ⟨Nat.lt_of_lt_of_le (hR k hk).1 g2.size, fun hx => ?_⟩⟩, fun k hk => g2.block k (hR k hk).1 (hR k hk).2⟩
 rcases g3 k hx with h4 | h4
 ·exact (hR k hk).2 h4
 ·have := (hR k hk).1; omega
theorem put_V (h : TrK (hH H) gn E0 w0 R w d s n root E) (H0 : Nat) (h9 : H0 ≤ 8) (hE : E.length < 2 ^ (H0 + 1)) (hn : 2 * E0.length + 2 * E.length + 2 * H0 + 5 ≤ n) (key : Int) (hk : 0 ≤ key ∧ key ≤ 18446744073709551615) (val : ByteArray) (hv : val.size ≤ 40) :
  Calls Tryz.prog 16 #[.pointer (some ⟨s, 0, none⟩), .int .i64 root, .int .u64 key, .string val] w fun e w' => ∃ q, e = .returned (.tuple #[.int .i64 q, .int .i64 0]) ∧ TrK (hH H) gn E0 w0 R w' d s n q (insE key val E) ∧ KeptL R w w' := by
 obtain ⟨hb, F, ⟨dk, st, P0, h1, G, ht, hl, hc, hg, hz⟩, hF, hR⟩ := h;refine (tput_gen w d s dk st F h1 G root E ht H0 h9 hE (hc.room ht G H0 (by omega)) key hk val hv).mono ?_;rintro e w' ⟨q, dk', st', rfl, hp, hT, hto⟩;exact ⟨q, rfl, TrK.after hb G hl hc hg hz hF hR hp hT hto⟩
theorem del_V (h : TrK (hH H) gn E0 w0 R w d s n root E) (H0 : Nat) (h9 : H0 ≤ 8) (hE : E.length < 2 ^ (H0 + 1)) (hn : 2 * E0.length + 2 * E.length + 2 * H0 + 5 ≤ n) (key : Int) (hk : 0 ≤ key ∧ key ≤ 18446744073709551615) :
  Calls Tryz.prog 18 #[.pointer (some ⟨s, 0, none⟩), .int .i64 root, .int .u64 key] w fun e w' => ∃ q, e = .returned (.tuple #[.int .i64 q, .bool (getB key E), .int .i64 0]) ∧ TrK (hH H) gn E0 w0 R w' d s n q (delE key E) ∧ KeptL R w w' := by
 obtain ⟨hb, F, ⟨dk, st, P0, h1, G, ht, hl, hc, hg, hz⟩, hF, hR⟩ := h;refine (tdel_gen w d s dk st F h1 G root E ht H0 h9 hE (hc.room ht G H0 (by omega)) key hk).mono ?_;rintro e w' ⟨q, dk', st', rfl, hp, hT, hto⟩;exact ⟨q, rfl, TrK.after hb G hl hc hg hz hF hR hp hT hto⟩
theorem oldScan_V (h : TrK (hH H) gn E0 w0 R w d s n root E) (hE : E0.length ≤ 300) (key most : Int) :
  Calls Tryz.prog 19 #[.pointer (some ⟨s, 0, none⟩), .int .i64 H.root, .int .u64 key, .int .i64 most] w fun e w' => ∃ v, e = .returned (.tuple #[v, .int .i64 0]) ∧ RowE w' v ((scanE key E0).take most.toNat) ∧ TrK (hH H) gn E0 w0 (v.ownBlock.toList ++ R) w' d s n root E ∧ KeptL R w w' := by
 obtain ⟨hb, F, ⟨dk, st, P0, h1, G, ht, hl, hc, hg, hz⟩, hF, hR⟩ := h;have hz' : st.h = H := hz
 have hr : (H.root = 0 ∧ E0 = []) ∨ ∃ hh F0 P0, IsT (Rn dk) hh H.root F0 P0 ∧ SortM F0 ∧ entsM F0 = E0 ∧ P0.length ≤ 640 := by
  have h2 := hc.few
  rcases hc.tr with ⟨a1, a2, _⟩ | ⟨hh, F0, a1, a2, a3⟩
  ·exact .inl ⟨by rw [← hz']; exact a1, a2⟩
  ·exact .inr ⟨hh, F0, P0, by rw [← hz']; exact a1, a2, a3, by omega⟩
 refine (scanR_is w d s dk st F h1 G H.root E0 hr (by omega) key most).mono ?_;rintro e w' ⟨v, rfl, ho, hp, hf⟩;have hlo := ho.lt;have hlt := h1.lt;refine ⟨v, rfl, ⟨ho.1, ho.2.imp id fun ⟨g, cap, cur, hv, _, r⟩ => ⟨g, cap, cur, hv, Nat.zero_le _, r⟩⟩, ⟨hb.trans (hf.below hF hb.size), F, ⟨dk, st, P0, hp, G, ht, hl, hc, hg, hz⟩, hF, fun k hk => ?_⟩, fun k hk => hf.block k (hR k hk).1 (hR k hk).2⟩
 rcases List.mem_append.1 hk with hk | hk
 ·have hk' : v.ownBlock = some k := by simpa using hk
  exact ⟨(hlo k hk').2, fun hx => by have := hlt k hx; have := (hlo k hk').1; omega⟩
 ·exact ⟨Nat.lt_of_lt_of_le (hR k hk).1 hf.size, (hR k hk).2⟩
theorem commit_V (h : TrK (hH H) gn E0 w0 R w d s n root E) (hg9 : gn ≤ 900) :
  Calls Tryz.prog 23 #[.pointer (some ⟨s, 0, none⟩), .int .i64 root] w fun e w' => e = .returned (.int .i64 0) ∧ ∃ H', H'.root = root ∧ TrK (hF H') (gn + 1) E w0 R w' d s n root E ∧ KeptL R w w' := by
 obtain ⟨hb, F, ⟨dk, st, P0, ⟨FD, FS, h1, he⟩, G, ht, hl, hc, hgn, _⟩, hF, hR⟩ := h;obtain ⟨dk', st', P, e1, e2, e3, e4, e5, e6, e7, e8⟩ := commit_cm hc G ht (by omega);have hr : root < 9223372036854775808 := by rw [← e6]; have := e3.hd.rt; omega
 refine (commit_is w d s dk st FD FS h1 root hr).mono ?_;rintro e w' ⟨rfl, FD', g1, g2, g3⟩;rw [e1] at g1 ⊢;have hx : ∀ k, FD k ∨ FS k → F k := fun k hk => (he k).2 hk
 have hTr := e3.tree e4 e5;rw [e6] at hTr;refine ⟨rfl, st'.h, e6, ⟨hb.trans (g2.below (fun k hk => hF k (hx k hk)) hb.size), fun k => FD' k ∨ FS k, ⟨dk', st', P, ⟨FD', FS, g1, fun _ => Iff.rfl⟩, e2, hTr, e8.trans hl, e3, by omega, rfl, e4, e5⟩, fun k hk => ?_, fun k hk => ⟨Nat.lt_of_lt_of_le (hR k hk).1 g2.size, fun hy => ?_⟩⟩, fun k hk => g2.block k (hR k hk).1 (fun hy => (hR k hk).2 (hx k hy))⟩
 ·rcases hk with hk | hk
  ·rcases g3 k hk with h3 | h3
   ·exact hF k (hx k (.inl h3))
   ·exact Nat.le_trans hb.size h3
  ·exact hF k (hx k (.inr hk))
 ·rcases hy with hy | hy
  ·rcases g3 k hy with h3 | h3
   ·exact (hR k hk).2 (hx k (.inl h3))
   ·have := (hR k hk).1; omega
  ·exact (hR k hk).2 (hx k (.inr hy))
theorem roll_V (h : TrK (hH H) gn E0 w0 R w d s n root E) :
  Calls Tryz.prog 25 #[.pointer (some ⟨s, 0, none⟩)] w fun e w' => e = .returned (.tuple #[]) ∧ TrK (hF H) gn E0 w0 R w' d s n H.root E0 ∧ KeptL R w w' := by
 obtain ⟨hb, F, ⟨dk, st, P0, ⟨FD, FS, hd, he⟩, G, hT, hl, hc, hgn, hz⟩, hF, hR⟩ := h;have hz' : st.h = H := hz;refine (rollback_is w s d st FS hd.sto).mono ?_;rintro e w' ⟨rfl, hs, hf⟩;have hx : ∀ k, FD k ∨ FS k → F k := fun k hk => (he k).2 hk
 have hc' : Cm dk st.back E0 P0 := ⟨hc.hd, hc.nd, hc.us, hc.tr⟩
 have hTr := hc'.tree rfl rfl;rw [show st.back.h.root = H.root by show st.h.root = _; rw [hz']] at hTr
 exact ⟨rfl, ⟨hb.trans (hf.below (fun k hk => hF k (hx k (.inr hk))) hb.size), fun k => FD k ∨ FS k, ⟨dk, st.back, P0, ⟨FD, FS, ⟨hd.dk.frm hf (fun k hk hy => hd.apart k hk hy), hs, hd.apart⟩, fun _ => Iff.rfl⟩, ⟨G.du, G.df, G.few, G.least, G.su, fun x hx => (by cases hx), List.nodup_nil, G.ub, fun x hx => (by cases hx)⟩, hTr, hl, hc', hgn, hz, rfl, rfl⟩, fun k hk => hF k (hx k hk), fun k hk => ⟨Nat.lt_of_lt_of_le (hR k hk).1 hf.size, fun hy => (hR k hk).2 (hx k hy)⟩⟩, fun k hk => hf.block k (hR k hk).1 (fun hy => (hR k hk).2 (hx k (.inr hy)))⟩
theorem root_V (h : TrK (hF H) gn E0 w0 R w d s n root E) :
  Calls Tryz.prog 26 #[.pointer (some ⟨s, 0, none⟩)] w fun e w' => e = .returned (.int .i64 H.root) ∧ w = w' := by
 obtain ⟨hb, F, ⟨dk, st, P0, ⟨FD, FS, hd, he⟩, G, hT, hl, hc, hgn, hz⟩, hF, hR⟩ := h;have hz' : st.h = H := hz.1;rw [← hz'];exact root_is w s d st FS hd.sto
def usH (H : HdS) (n : Nat) : Nat := usedN (ShS.new H) n
theorem cm_count {dk : DkS} {st : ShS} {P : List Int} (c : Cm dk st E P) (G : Good dk st) : usedN st dk.S.length = P.length := by
 refine Nat.le_antisymm (c.usedN _) ?_
 show _ ≤ usedL st dk.S.length dk.S.length
 rw [useL_len];refine subset_len _ _ c.nd fun x hx => ?_
 have h1 := (c.us x).2 hx;have h2 := G.ub x h1;unfold useL;refine List.mem_map.2 ⟨x.toNat, List.mem_filter.2 ⟨List.mem_range.2 (by omega), ?_⟩, by omega⟩;rw [show ((x.toNat : Nat) : Int) = x by omega, h1, decide_eq_true (show 2 ≤ x.toNat by omega)]
 rfl
theorem used_V (h : TrK (hF H) gn E0 w0 R w d s n root E) :
  Calls Tryz.prog 27 #[.pointer (some ⟨s, 0, none⟩)] w fun e w' => (∃ a cap, e = .returned (.slice a (usH H n) cap)) ∧ Below w.heap.size w w' := by
 obtain ⟨hb, F, ⟨dk, st, P0, ⟨FD, FS, hd, he⟩, G, hT, hl, hc, hgn, hz⟩, hF, hR⟩ := h;have hz' : st.h = H := hz.1;have hu := usedlist_is w s d dk st FD FS hd.dk hd.sto;rw [hl, show usedN st n = usH H n from (usedN_h (ShS.new H) st n hz')] at hu;exact hu
theorem pages_V (h : TrK (hF H) gn E0 w0 R w d s n root E0) (hr : H.root = root) (hE : E0.length ≤ 300) :
  Calls Tryz.prog 20 #[.pointer (some ⟨s, 0, none⟩), .int .i64 root] w fun e w' => ∃ a cap, e = .returned (.tuple #[.slice a (usH H n) cap, .int .i64 0]) ∧ TrK (hF H) gn E0 w0 R w' d s n root E0 ∧ KeptL R w w' := by
 obtain ⟨hb, F, ⟨dk, st, P0, h1, G, ht, hl, hc, hgn, hz⟩, hF, hR⟩ := h;have hz' : st.h = H := hz.1;refine (pages_is w d s dk st F h1 G root E0 ht (by omega)).mono ?_;rintro e w' ⟨v, P, rfl, hL, ho, hp, hf⟩
 have hn : P.length = usH H n := by
  have hsub : ∀ x, x ∈ P ↔ x ∈ P0 := fun x => by rw [hL.2 x, ← hc.us x]; unfold Live; rw [hz.2.1, hz.2.2]; simp
  have h1 := subset_len P P0 hL.1 fun x hx => (hsub x).1 hx
  have h2 := subset_len P0 P hc.nd fun x hx => (hsub x).2 hx
  have h3 := cm_count hc G;rw [hl, show usedN st n = usH H n from (usedN_h (ShS.new H) st n hz')] at h3;omega
 obtain ⟨a, cap, rfl, _, _⟩ := own_shape7 ho;rw [hn];exact ⟨a, cap, rfl, ⟨hb.trans (hf.below hF hb.size), F, ⟨dk, st, P0, hp, G, ht, hl, hc, hgn, hz⟩, hF, fun k hk => ⟨Nat.lt_of_lt_of_le (hR k hk).1 hf.size, (hR k hk).2⟩⟩, fun k hk => hf.block k (hR k hk).1 (hR k hk).2⟩
end
def zrowV (q : Nat) : SP := ⟨fun v w => ∃ g, v = .slice (some ⟨g, 0, none⟩) q q ∧ Byt 5 w g (List.replicate q 0), fun _ _ _ ⟨g, h1, h2⟩ hb => ⟨g, h1, h2.below hb⟩⟩
def oneV (x : UInt8) : SP := ⟨fun v w => ∃ g, v = .slice (some ⟨g, 0, none⟩) 1 1 ∧ Byt 5 w g [x], fun _ _ _ ⟨g, h1, h2⟩ hb => ⟨g, h1, h2.below hb⟩⟩
def lawM (n : Int) : Nat := (if n < 0 then -(n + 1) else n).toNat
def lawV (n : Int) : ByteArray := Str (List.replicate (lawM n % 40) 0) ++ Str [UInt8.ofNat (lawM n % 256)]
theorem lawV_size (n : Int) : (lawV n).size ≤ 40 := by
 unfold lawV;rw [ByteArray.size_append, Str_size, Str_size, List.length_replicate];have := Nat.mod_lt (lawM n) (show 0 < 40 by decide);simp only [List.length_cons, List.length_nil];omega
theorem value_is (w : World) (n : Int) (h1 : -9223372036854775808 ≤ n) (h2 : n ≤ 9223372036854775807) :
  Calls Tryz.prog 17 #[.int .i64 n] w fun e w' => e = .returned (.string (lawV n)) ∧ Below w.heap.size w w' := by
 obtain ⟨m, hm⟩ : ∃ m, lawM n = m := ⟨_, rfl⟩
 obtain ⟨q, hq⟩ : ∃ q, m % 40 = q := ⟨_, rfl⟩
 obtain ⟨x, hx⟩ : ∃ x, UInt8.ofNat (m % 256) = x := ⟨_, rfl⟩
 obtain ⟨Z, hZ⟩ : ∃ Z, Str (List.replicate q (0 : UInt8)) = Z := ⟨_, rfl⟩
 obtain ⟨X1, hX1⟩ : ∃ X1, Str [x] = X1 := ⟨_, rfl⟩
 have FIN : Hid (lawV n = Z ++ X1) := Hd (by unfold lawV; rw [hm, hq, hx, hZ, hX1]);have HQ40 : Hid (q < 40) := Hd (by rw [← hq]; exact Nat.mod_lt _ (by decide));have HQ : Hid ((m : Int).tmod 40 = (q : Int)) := Hd (by rw [← hq]; rfl);have HZ := Hd hZ;have HX1 := Hd hX1;have HX : Hid (IntKind.u8.wrap (m : Int) = (x.toNat : Int)) := Hd (by rw [← hx, UInt8.toNat_ofNat']; show _ = _; rw [IntKind.wrap_u8]; omega)
 have HSZ : Hid ((9223372036854775807 < Z.size + X1.size) = False) := Hd (by
  rw [← hZ, ← hX1, Str_size, Str_size, List.length_replicate];have := HQ40.out;simp only [List.length_cons, List.length_nil];exact eq_false (by omega))
 clear hq hx hZ hX1
 by_cases hn : n < 0
 ·have hm' : -(n + 1) = (m : Int) := by rw [← hm]; unfold lawM; rw [if_pos hn]; omega
  have e1 : IntKind.i64.wrap (n + 1) = n + 1 := IntWalk.i64_in _ (by omega);have e2 : IntKind.i64.wrap (-(n + 1)) = (m : Int) := by rw [hm']; exact IntWalk.i64_in _ (by omega)
  clear hm hm';go_enter Tryz.func17, Tryz.ntmps17;go_wp2_with fail;refine region_kit 99 17 [eqV (.int .i64 (m : Int)), eqV (.int .i64 ((q : Nat) : Int)), zrowV q, eqV (.string Z), eqV (.int .i64 (m : Int)), eqV (.int .u8 (x.toNat : Int)), oneV x, eqV (.string X1), eqV (.string (Z ++ X1)), eqV (.string (Z ++ X1))] (by kernel_rfl) (by kernel_rfl) (by rfl) ?owes ?ends
  case owes =>
   refine Fo 0 (fun a wx hS xo xd K HK => ?_) ?_
   ·have d0 := Fl xo 0
    clear xo xd;go_simp;exact Hr HK
   refine Fo 1 (fun a wx hS xo xd K HK => ?_) ?_
   ·have d8 := Fq xd 0
    clear xo xd;have hq := HQ.out;go_simp;exact Hr HK
   refine Fo 2 (fun a wx hS xo xd K HK => ?_) ?_
   ·have d9 := Fq xd 1
    clear xo xd;obtain ⟨w3, hmk, hrow, hbel⟩ := made_bytes wx q q (Nat.le_refl _) (by have := HQ40.out; omega);have hmk' : (Instr.makeSlice 62 (.int .i64 (q : Int)) (.int .i64 (q : Int))).run Tryz.prog wx = .ok (.slice (some ⟨wx.heap.size, 0, none⟩) q q) w3 := hmk;clear hmk;go_simp;exact HK.out _ _ ⟨_, rfl, hrow⟩ hbel
   refine Fo 3 (fun a wx hS xo xd K HK => ?_) ?_
   ·obtain ⟨g10, d10, z10⟩ := Fr xd 2
    clear xo xd;have hcv := z10.conv q q (by rw [List.length_replicate]; exact Nat.le_refl _);rw [List.take_of_length_le (by rw [List.length_replicate]; exact Nat.le_refl _), HZ.out] at hcv;have hcv' : (convert 62 9 (.slice (some ⟨g10, 0, none⟩) q q)).run Tryz.prog wx = .ok (.string Z) wx := hcv;clear hcv;go_simp;exact Hr HK
   refine Fo 4 (fun a wx hS xo xd K HK => ?_) ?_
   ·have d0 := Fl xo 0
    clear xo xd;go_simp;exact Hr HK
   refine Fo 5 (fun a wx hS xo xd K HK => ?_) ?_
   ·have d12 := Fq xd 4
    clear xo xd;go_simp;refine HK.out _ _ ?_ Br
    show _ = _
    first | rfl | simp only [HX.out]
   refine Fo 6 (fun a wx hS xo xd K HK => ?_) ?_
   ·have d13 := Fq xd 5
    clear xo xd;go_simp;exact HK.out _ _ ⟨_, rfl, han wx _⟩ (below_made _ _)
   refine Fo 7 (fun a wx hS xo xd K HK => ?_) ?_
   ·obtain ⟨g14, d14, z14⟩ := Fr xd 6
    clear xo xd;have hcv := z14.conv 1 1 (Nat.le_refl _);rw [show ([x] : List UInt8).take 1 = [x] from rfl, HX1.out] at hcv;have hcv' : (convert 62 9 (.slice (some ⟨g14, 0, none⟩) 1 1)).run Tryz.prog wx = .ok (.string X1) wx := hcv;clear hcv;go_simp;exact Hr HK
   refine Fo 8 (fun a wx hS xo xd K HK => ?_) ?_
   ·have d11 := Fq xd 3
    have d15 := Fq xd 7;clear xo xd;have hs := HSZ.out;go_simp;exact Hr HK
   refine Fo 9 (fun a wx hS xo xd K HK => ?_) ?_
   ·have d16 := Fq xd 8
    clear xo xd;go_simp;exact Hr HK
   exact OwesAll.nil
  case ends =>
   intro a wx hS hsz hdf hold hdone;simp only [List.getElem?_toArray, List.getElem?_cons_succ, List.getElem?_cons_zero, List.getElem?_nil];have hsz' : a.tmps.size = 17 := hsz;have hdf' : a.defers = [] := hdf;have ha := act_lit hsz' hdf';have e0 := hold 0 (unset_of (by kernel_rfl));have e1 := hold 1 (unset_of (by kernel_rfl));have e3 := hold 3 (unset_of (by kernel_rfl));have e4 := hold 4 (unset_of (by kernel_rfl));have e5 := hold 5 (unset_of (by kernel_rfl));have e6 := hold 6 (unset_of (by kernel_rfl));have e7 := hold 7 (unset_of (by kernel_rfl))
   have d8 : a.tmps.getD 8 undef = .int .i64 (m : Int) := hdone 0 _ 8 rfl (by decide) rfl;have d9 : a.tmps.getD 9 undef = .int .i64 ((q : Nat) : Int) := hdone 1 _ 9 rfl (by decide) rfl;have d11 : a.tmps.getD 11 undef = .string Z := hdone 3 _ 11 rfl (by decide) rfl;have d12 : a.tmps.getD 12 undef = .int .i64 (m : Int) := hdone 4 _ 12 rfl (by decide) rfl;have d13 : a.tmps.getD 13 undef = .int .u8 (x.toNat : Int) := hdone 5 _ 13 rfl (by decide) rfl;have d15 : a.tmps.getD 15 undef = .string X1 := hdone 7 _ 15 rfl (by decide) rfl
   have d16 : a.tmps.getD 16 undef = .string (Z ++ X1) := hdone 8 _ 16 rfl (by decide) rfl;have d2 : a.tmps.getD 2 undef = .string (Z ++ X1) := hdone 9 _ 2 rfl (by decide) rfl;clear hold hdone hsz hdf hsz' hdf';simp only [Array.getD_eq_getD_getElem?, List.getElem?_toArray, List.getElem?_cons_succ, List.getElem?_cons_zero, Option.getD_some] at e0 e1 e3 e4 e5 e6 e7 d8 d9 d11 d12 d13 d15 d16 d2;simp only [show (List.range 17) = [0, 1, 2, 3, 4, 5, 6, 7, 8, 9, 10, 11, 12, 13, 14, 15, 16] from rfl, List.map_cons, List.map_nil] at ha
   simp only [e0, e1, e3, e4, e5, e6, e7, d8, d9, d11, d12, d13, d15, d16, d2] at ha;clear e0 e1 e3 e4 e5 e6 e7 d8 d9 d11 d12 d13 d15 d16 d2;generalize a.tmps[10]?.getD undef = u10 at ha;generalize a.tmps[14]?.getD undef = u14 at ha;subst ha;have HB := Hd hS;clear hS;go_wp2_with fail;go_ret;exact ⟨by rw [FIN.out]; rfl, HB.out⟩
 ·obtain rfl : n = (m : Int) := by rw [← hm]; unfold lawM; rw [if_neg hn]; omega
  clear hm;go_enter Tryz.func17, Tryz.ntmps17;go_wp2_with fail;refine region_kit 99 17 [eqV (.int .i64 (m : Int)), eqV (.int .i64 ((q : Nat) : Int)), zrowV q, eqV (.string Z), eqV (.int .i64 (m : Int)), eqV (.int .u8 (x.toNat : Int)), oneV x, eqV (.string X1), eqV (.string (Z ++ X1)), eqV (.string (Z ++ X1))] (by kernel_rfl) (by kernel_rfl) (by rfl) ?owes ?ends
  case owes =>
   refine Fo 0 (fun a wx hS xo xd K HK => ?_) ?_
   ·have d0 := Fl xo 0
    clear xo xd;go_simp;exact Hr HK
   refine Fo 1 (fun a wx hS xo xd K HK => ?_) ?_
   ·have d8 := Fq xd 0
    clear xo xd;have hq := HQ.out;go_simp;exact Hr HK
   refine Fo 2 (fun a wx hS xo xd K HK => ?_) ?_
   ·have d9 := Fq xd 1
    clear xo xd;obtain ⟨w3, hmk, hrow, hbel⟩ := made_bytes wx q q (Nat.le_refl _) (by have := HQ40.out; omega);have hmk' : (Instr.makeSlice 62 (.int .i64 (q : Int)) (.int .i64 (q : Int))).run Tryz.prog wx = .ok (.slice (some ⟨wx.heap.size, 0, none⟩) q q) w3 := hmk;clear hmk;go_simp;exact HK.out _ _ ⟨_, rfl, hrow⟩ hbel
   refine Fo 3 (fun a wx hS xo xd K HK => ?_) ?_
   ·obtain ⟨g10, d10, z10⟩ := Fr xd 2
    clear xo xd;have hcv := z10.conv q q (by rw [List.length_replicate]; exact Nat.le_refl _);rw [List.take_of_length_le (by rw [List.length_replicate]; exact Nat.le_refl _), HZ.out] at hcv;have hcv' : (convert 62 9 (.slice (some ⟨g10, 0, none⟩) q q)).run Tryz.prog wx = .ok (.string Z) wx := hcv;clear hcv;go_simp;exact Hr HK
   refine Fo 4 (fun a wx hS xo xd K HK => ?_) ?_
   ·have d0 := Fl xo 0
    clear xo xd;go_simp;exact Hr HK
   refine Fo 5 (fun a wx hS xo xd K HK => ?_) ?_
   ·have d12 := Fq xd 4
    clear xo xd;go_simp;refine HK.out _ _ ?_ Br
    show _ = _
    first | rfl | simp only [HX.out]
   refine Fo 6 (fun a wx hS xo xd K HK => ?_) ?_
   ·have d13 := Fq xd 5
    clear xo xd;go_simp;exact HK.out _ _ ⟨_, rfl, han wx _⟩ (below_made _ _)
   refine Fo 7 (fun a wx hS xo xd K HK => ?_) ?_
   ·obtain ⟨g14, d14, z14⟩ := Fr xd 6
    clear xo xd;have hcv := z14.conv 1 1 (Nat.le_refl _);rw [show ([x] : List UInt8).take 1 = [x] from rfl, HX1.out] at hcv;have hcv' : (convert 62 9 (.slice (some ⟨g14, 0, none⟩) 1 1)).run Tryz.prog wx = .ok (.string X1) wx := hcv;clear hcv;go_simp;exact Hr HK
   refine Fo 8 (fun a wx hS xo xd K HK => ?_) ?_
   ·have d11 := Fq xd 3
    have d15 := Fq xd 7;clear xo xd;have hs := HSZ.out;go_simp;exact Hr HK
   refine Fo 9 (fun a wx hS xo xd K HK => ?_) ?_
   ·have d16 := Fq xd 8
    clear xo xd;go_simp;exact Hr HK
   exact OwesAll.nil
  case ends =>
   intro a wx hS hsz hdf hold hdone;simp only [List.getElem?_toArray, List.getElem?_cons_succ, List.getElem?_cons_zero, List.getElem?_nil];have hsz' : a.tmps.size = 17 := hsz;have hdf' : a.defers = [] := hdf;have ha := act_lit hsz' hdf';have e0 := hold 0 (unset_of (by kernel_rfl));have e1 := hold 1 (unset_of (by kernel_rfl));have e3 := hold 3 (unset_of (by kernel_rfl));have e4 := hold 4 (unset_of (by kernel_rfl));have e5 := hold 5 (unset_of (by kernel_rfl));have e6 := hold 6 (unset_of (by kernel_rfl));have e7 := hold 7 (unset_of (by kernel_rfl))
   have d8 : a.tmps.getD 8 undef = .int .i64 (m : Int) := hdone 0 _ 8 rfl (by decide) rfl;have d9 : a.tmps.getD 9 undef = .int .i64 ((q : Nat) : Int) := hdone 1 _ 9 rfl (by decide) rfl;have d11 : a.tmps.getD 11 undef = .string Z := hdone 3 _ 11 rfl (by decide) rfl;have d12 : a.tmps.getD 12 undef = .int .i64 (m : Int) := hdone 4 _ 12 rfl (by decide) rfl;have d13 : a.tmps.getD 13 undef = .int .u8 (x.toNat : Int) := hdone 5 _ 13 rfl (by decide) rfl;have d15 : a.tmps.getD 15 undef = .string X1 := hdone 7 _ 15 rfl (by decide) rfl
   have d16 : a.tmps.getD 16 undef = .string (Z ++ X1) := hdone 8 _ 16 rfl (by decide) rfl;have d2 : a.tmps.getD 2 undef = .string (Z ++ X1) := hdone 9 _ 2 rfl (by decide) rfl;clear hold hdone hsz hdf hsz' hdf';simp only [Array.getD_eq_getD_getElem?, List.getElem?_toArray, List.getElem?_cons_succ, List.getElem?_cons_zero, Option.getD_some] at e0 e1 e3 e4 e5 e6 e7 d8 d9 d11 d12 d13 d15 d16 d2;simp only [show (List.range 17) = [0, 1, 2, 3, 4, 5, 6, 7, 8, 9, 10, 11, 12, 13, 14, 15, 16] from rfl, List.map_cons, List.map_nil] at ha
   simp only [e0, e1, e3, e4, e5, e6, e7, d8, d9, d11, d12, d13, d15, d16, d2] at ha;clear e0 e1 e3 e4 e5 e6 e7 d8 d9 d11 d12 d13 d15 d16 d2;generalize a.tmps[10]?.getD undef = u10 at ha;generalize a.tmps[14]?.getD undef = u14 at ha;subst ha;have HB := Hd hS;clear hS;go_wp2_with fail;go_ret;exact ⟨by rw [FIN.out]; rfl, HB.out⟩
section
variable {P : Program} {w : World} {m : Nat} {L : List (Int × Value)} {t k e : TypeId} (ht : P.underlying t = some (.map k e)) (hk : P.underlying k = some (.int .u64))
include ht hk
end
theorem int_cellA {w : World} {a : Option Addr} {len cap : Nat} {zs : List Int} (hk : IsInts .i64 w a len cap zs) (j : Nat) (hj : j < len) : ∃ (x : Addr) (z : Int), a = some x ∧ zs.getD j 0 = z ∧ (-9223372036854775808 ≤ z ∧ z ≤ 9223372036854775807) ∧ Hid (∀ wr, Below w.heap.size w wr → wr.cell? (x.add j) = some (.int .i64 z)) := by
 rcases hk with ⟨rfl, rfl, rfl, rfl⟩ | ⟨x, rfl, h1, h2, h3, h4, h5⟩
 ·omega
 ·have hjl : j < zs.length := by omega
  refine ⟨x, _, rfl, rfl, ?_, Hd fun wr hb => ?_⟩
  ·have hm : zs.getD j 0 ∈ zs := by
    rw [List.getD_eq_getElem?_getD, List.getElem?_eq_getElem hjl];exact List.getElem_mem hjl
   have hw := h5 _ hm;generalize zs.getD j 0 = z at hw ⊢;simp [Lit.wf] at hw;have e1 : IntKind.i64.min = -9223372036854775808 := by rfl
   have e2 : IntKind.i64.max = 9223372036854775807 := by rfl
   omega
  ·have hc := h4 j hjl
   have hlt : (x.add j).block < w.heap.size := by
    unfold World.cell? at hc
    cases hq : w.heap[(x.add j).block]? with
    | none => rw [hq] at hc; simp at hc
    | some b => exact (zl hq)
   exact (hb.cell hlt).trans hc
theorem ints_len {w : World} {a : Option Addr} {len cap : Nat} {zs : List Int} (hk : IsInts .i64 w a len cap zs) : (len : Int) ≤ 9223372036854775807 := by
 rcases hk with ⟨_, rfl, _, _⟩ | ⟨_, _, h1, h2, _⟩
 ·decide
 ·unfold maxLen at h2; omega
theorem examples_yes11 (w : World) :
  Calls Tryz.prog 13 #[] w fun e w' => e = .returned (.bool true) ∧ Below w.heap.size w w' := by
 have NY := Hd fun w => new_yes w 20 (by decide) (by decide)
 have FG := Hd (fmt_good (DkS.fresh 20) rfl rfl (by decide) (by decide));obtain ⟨V, hV⟩ : ∃ V : ByteArray, (⟨#[102, 105, 118, 101]⟩ : ByteArray) = V := ⟨_, rfl⟩
 have HV := Hd hV;have hvv : V.toList == [102, 105, 118, 101] := by rw [← hV]; decide +kernel
 go_enter Tryz.func13, Tryz.ntmps13;try simp only [List.append_eq, List.cons_append, List.nil_append]
 go_wp2_with fail;refine (NY.out _).mono ?_;rintro e w1 ⟨d, FD, rfl, hd, hb, hF⟩;have HD := Hd hd;have HB := Hd hb;have HF := Hd hF;have pn := ptr_nilD ⟨d, 0, none⟩;clear hd hb hF NY;go_wp2_with fail;refine (format_is w1 d (DkS.fresh 20) FD HD.out).mono ?_;intro e w3 hp;obtain ⟨v, rfl, s, FS, FD', rfl, hds, hf3, hn3, hs3⟩ := hp.1 FG.out.1
 have T0 : Hid (TrR w [] w3 d s 20 0 []) := by
  obtain ⟨g1, g2, g3, g4⟩ := FG.out;refine Hd ⟨HB.out.trans (hf3.below (fun k hk => HF.out k hk) HB.out.size), fun k => FD' k ∨ FS k, ⟨_, _, ⟨FD', FS, hds, fun _ => Iff.rfl⟩, g2, g3, g4, rfl⟩, fun k hk => ?_, fun k hk => by cases hk⟩;have := HB.out.size
  rcases hk with hk | hk
  ·rcases hn3 k hk with h1 | h1
   ·exact HF.out k h1
   ·omega
  ·have := hs3 k hk; omega
 have pn2 := ptr_nilS ⟨s, 0, none⟩;clear hp hds hf3 hn3 hs3 HD HB HF FG
 have PU : Hid (Calls Tryz.prog 16 #[.pointer (some ⟨s, 0, none⟩), .int .i64 0, .int .u64 5, .string V] w3 fun e w' => ∃ q, e = .returned (.tuple #[.int .i64 q, .int .i64 0]) ∧ TrR w [] w' d s 20 q [(5, V)] ∧ KeptL [] w3 w') := Hd (by
  have := put_R T0.out 0 (by decide) (by simp) (by simp) 5 (by decide) V (by rw [← HV.out]; decide);exact this)
 go_wp2_with fail;refine PU.out.mono ?_;rintro e w4 ⟨q, rfl, hT, hKK⟩;clear hKK;have T1 := Hd hT
 have GE : Hid (Calls Tryz.prog 22 #[.pointer (some ⟨s, 0, none⟩), .int .i64 q, .int .u64 5] w4 fun e w' => e = .returned (.tuple #[.string V, .bool true, .int .i64 0]) ∧ Below w4.heap.size w4 w') := Hd (by
  have := get_R hT (by simp) 5 (by decide);rw [show getV 5 [(5, V)] = V from by simp [getV, getE], show getB 5 [(5, V)] = true from by simp [getB, getE]] at this;exact this)
 clear hT PU T0;go_wp2_with fail;refine GE.out.mono ?_;rintro e w5 ⟨rfl, b5⟩;have T2 := Hd (T1.out.below b5);clear b5 T1 GE;go_wp2_with fail;refine (getNil_R T2.out 5 (by decide)).mono ?_;rintro e w6 ⟨rfl, b6⟩;have T3 := Hd (T2.out.below b6);clear b6 T2
 have DE : Hid (Calls Tryz.prog 18 #[.pointer (some ⟨s, 0, none⟩), .int .i64 q, .int .u64 5] w6 fun e w' => e = .returned (.tuple #[.int .i64 0, .bool true, .int .i64 0]) ∧ Below w.heap.size w w') := Hd (by
  have := del_R T3.out 0 (by decide) (by simp) (by simp) 5 (by decide);rw [show getB 5 [(5, V)] = true from by simp [getB, getE]] at this;refine this.mono ?_;rintro e w' ⟨q2, rfl, hT, hKK⟩;obtain rfl : q2 = 0 := root_nil hT (by simp [delE]);exact ⟨rfl, hT.size⟩)
 go_wp2_with fail;refine DE.out.mono ?_;rintro e w7 ⟨rfl, b7⟩;have HBB := Hd b7;clear b7 DE T3;go_wp2_with fail;go_ret;exact ⟨rfl, HBB.out⟩
end Go.Proofs.YtmomlhiokggfbaaGreatDoor
