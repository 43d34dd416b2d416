/-
  The document's own disk: Write.
-/
import Derived.Test.YteaiiiikehimgaaRk
namespace Go.Proofs.Yteaiiiikehimgaa
open Go.RowKit
set_option linter.unusedVariables false
set_option linter.unusedSimpArgs false
theorem was_info : ∃ i, Try.prog.info? 72 = some i ∧ i.zero = some (.agg #[.int .i64 0, .string ⟨#[]⟩]) ∧ i.size = 2 ∧ i.bytes = 24 := by
  have : (Try.prog.info? 72).map (fun i => (i.zero, i.size, i.bytes)) = some (some (.agg #[.int .i64 0, .string ⟨#[]⟩]), 2, 24) := by kernel_rfl
  cases hq : Try.prog.info? 72 with
  | none => rw [hq] at this; cases this
  | some i =>
    rw [hq] at this
    simp only [Option.map_some, Option.some.injEq, Prod.mk.injEq] at this
    exact ⟨i, rfl, this.1, this.2.1, this.2.2⟩
/-- The loose ones, cut to their length. -/
def cutV : Value → Nat → Value
  | .slice a _ _, n => .slice a n n
  | v, _ => v
theorem was_append {w : World} {vl : Value} {L : List (Nat × List UInt8)} (hown : w.ownsRow 0 72 2 vl L.length (L.flatMap WasV)) (hL : L.length ≤ 640) (b : Nat) (p : Nat × List UInt8)
    (hb : w.heap[b]? = some (.cells #[.int .i64 (p.1 : Int), .string (Str p.2)] 72 (0, 0))) :
    ∃ cap w', (Builtin.append_ #[58, 58] 58 #[cutV vl L.length, .slice (some ⟨b, 0, none⟩) 1 1]).run Try.prog w = .ok (.slice (some ⟨w.heap.size, 0, none⟩) (L.length + 1) cap) w' ∧
      w'.ownsRow 0 72 2 (.slice (some ⟨w.heap.size, 0, none⟩) (L.length + 1) cap) (L.length + 1) ((L ++ [p]).flatMap WasV) ∧ Below w.heap.size w w' := by
  obtain ⟨i, hi, hz, hsize, hby⟩ := was_info
  have hnews : ∀ j u, (WasV p)[j]? = some u → w.cell? ((⟨b, 0, none⟩ : Addr).add j) = some u := by
    intro j u hj
    rw [addr_add, Nat.zero_add, cell_of_row w b j _ _ _ hb]
    unfold WasV at hj
    match j, hj with
    | 0, hj => simpa using hj
    | 1, hj => simpa using hj
    | j + 2, hj => simp at hj
  have hlen : (L.flatMap WasV ++ WasV p).length = (L.length + 1) * i.size := by rw [List.length_append, wasV_len, hsize]; show _ + 2 = _; omega
  have grown : ∀ (w1 : World) (c : Nat) (cs : Array Value), w1 = w.drew.alloc (.cells cs 72) → cs.toList = L.flatMap WasV ++ WasV p ++ (Builtin.zeroCells (.agg #[.int .i64 0, .string ⟨#[]⟩] : Value).cells (c - (L.length + 1))).toList → L.length + 1 ≤ c → c ≤ maxLen →
      w1.ownsRow 0 72 2 (.slice (some ⟨w.heap.size, 0, none⟩) (L.length + 1) c) (L.length + 1) ((L ++ [p]).flatMap WasV) ∧ Below w.heap.size w w1 := by
    intro w1 c cs hw1 hcs h1 h2
    subst hw1
    have e : (L ++ [p]).flatMap WasV = L.flatMap WasV ++ WasV p := by simp
    rw [e]
    refine ⟨⟨by rw [hlen, hsize], .inr ⟨w.heap.size, c, cs, rfl, Nat.zero_le _, heap_alloc_new w.drew _, h1, h2, ?_, ?_⟩⟩, ⟨rfl, rfl, rfl, by simp, fun k hk => Below.heap_alloc w.drew _ k hk⟩⟩
    · have hzl : ∀ n, (Builtin.zeroCells (Value.agg #[.int .i64 0, .string ⟨#[]⟩]).cells n).toList.length = n * 2 := fun n => by
        rw [Array.length_toList, size_zeroCells]
        rfl
      rw [← Array.length_toList, hcs, List.length_append, hlen, hsize, hzl]
      omega
    · rw [hcs, ← hsize, ← hlen]
      exact List.take_left
  rcases hown.2 with ⟨rfl, h0⟩ | ⟨g, cap, cur, rfl, hbg, hg, hnc, hcm, hcs, htake⟩
  · have hr := run_append_nil (P := Try.prog) w 58 58 72 i _ Try.underlying58 hi hz ⟨b, 0, none⟩ 1 1 (WasV p) (by rw [hsize]; rfl) hnews (by decide) (by decide) (by omega)
    obtain rfl : L = [] := List.length_eq_zero_iff.1 h0
    exact ⟨_, _, hr, grown _ _ _ rfl (by simp) (grownCap_ge w 1 0 _) (grownCap_le_maxLen w 1 0 _ (by decide))⟩
  · have holds : ∀ j u, (L.flatMap WasV)[j]? = some u → w.cell? ((⟨g, 0, none⟩ : Addr).add j) = some u := hown.cells (g := g) rfl
    have hr := run_append_grow (P := Try.prog) w 58 58 72 i _ Try.underlying58 hi hz ⟨g, 0, none⟩ L.length L.length (L.flatMap WasV) (by rw [hsize, wasV_len]) holds ⟨b, 0, none⟩ 1 1 (WasV p) (by rw [hsize]; rfl) hnews (by omega) (by omega) (growslice_fits (by omega) (by rw [hby]; omega))
    exact ⟨_, _, hr, grown _ _ _ rfl (by simp) (grownCap_ge w _ _ _) (grownCap_le_maxLen w _ _ _ (by unfold maxLen; omega))⟩
theorem step_append_run {P : Program} {ops : Array Oper} {o : Oper} {a : Act} {w w' : World} {K : Act → World → Prop} {Q : Exit → Act → World → Prop} {E : Prop} (hgd : o.guard = none) (s x : Operand) (t : TypeId)
    (ho : o.op = .call { callee := .builtin .append, args := #[s, x], argTypes := #[t, t] }) (v y v' : Value) (hs : a.eval s = v) (hx : a.eval x = y)
    (hr : (Builtin.append_ #[t, t] o.type #[v, y]).run P w = .ok v' w') (h : K (a.put o.dst v') w') :
    if Region.wanted o (yielded ops a.tmps) = true then Oper.wp P o a w K Q else E := by
  have hw : Region.wanted o (yielded ops a.tmps) = true := by simp [Region.wanted, hgd]
  rw [if_pos hw]
  unfold Oper.wp
  simp [execOp, ho, resolve, invoke, builtin, hs, hx, hr, Result.andThen]
  exact h
end Go.Proofs.Yteaiiiikehimgaa
