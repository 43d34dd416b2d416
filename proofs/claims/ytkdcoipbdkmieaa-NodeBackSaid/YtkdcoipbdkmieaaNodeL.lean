/-
  Package node: a leaf's keys and values off its bytes.
-/
import Derived.Test.YtkdcoipbdkmieaaNodeD
import Derived.Test.YtkdcoipbdkmieaaNodeG
namespace Go.Proofs.Ytkdcoipbdkmieaa
open Go.RowKit
set_option linter.unusedVariables false
set_option linter.unusedSimpArgs false
theorem step_append_rund {P : Program} {ops : Array Oper} {o : Oper} {a : Act} {w w' : World} {K : Act → World → Prop} {Q : Exit → Act → World → Prop} {E : Prop} (hgd : o.guard = none) (d : Tmp) (hd : o.dst = some d) (s x : Operand) (t : TypeId)
    (ho : o.op = .call { callee := .builtin .append, args := #[s, x], argTypes := #[t, t] }) (v y v' : Value) (hs : a.eval s = v) (hx : a.eval x = y)
    (hr : (Builtin.append_ #[t, t] o.type #[v, y]).run P w = .ok v' w') (h : K { tmps := a.tmps.setIfInBounds d v', defers := a.defers } w') :
    if Region.wanted o (yielded ops a.tmps) = true then Oper.wp P o a w K Q else E := by
  have hw : Region.wanted o (yielded ops a.tmps) = true := by simp [Region.wanted, hgd]
  rw [if_pos hw]
  unfold Oper.wp
  simp [execOp, ho, resolve, invoke, builtin, hs, hx, hr, Result.andThen]
  show K (a.put o.dst v') w'
  rw [hd]
  exact h
theorem own_frm {F : Nat → Prop} {w w' : World} {B : Nat} {e : TypeId} {v : Value} {n : Nat} {xs : List Value} (h : w.ownsRow B e 1 v n xs) (hb : Frm F w w') (hF : ∀ k, v.ownBlock = some k → ¬ F k) : w'.ownsRow B e 1 v n xs := by
  refine ⟨h.1, ?_⟩
  rcases h.2 with hx | ⟨g, cap, cur, hv, hbg, hh, r⟩
  · exact .inl hx
  · exact .inr ⟨g, cap, cur, hv, hbg, (hb.block g (Array.getElem?_eq_some_iff.1 hh).1 (hF g (by rw [hv]; rfl))).trans hh, r⟩
theorem own_set {w : World} {B : Nat} {e : TypeId} {v : Value} {n : Nat} {xs : List Value} (h : w.ownsRow B e 1 v n xs) (r i : Nat) (u : Value) (hr : r < B) : (w.setCell ⟨r, i, none⟩ u).ownsRow B e 1 v n xs := by
  refine ⟨h.1, ?_⟩
  rcases h.2 with hx | ⟨g, cap, cur, hv, hbg, hh, q⟩
  · exact .inl hx
  · exact .inr ⟨g, cap, cur, hv, hbg, (Below.heap_setCell _ _ _ _ (by show ¬ g = r; omega)).trans hh, q⟩
theorem apart_ne {a b : Value} (h : ∀ x, a.ownBlock = some x → b.ownBlock ≠ some x) : a.ownBlock = none ∨ a.ownBlock ≠ b.ownBlock := by
  cases hx : a.ownBlock with
  | none => exact .inl rfl
  | some x => exact .inr fun e => h x hx e.symm
/-- A row of the call's own that grows by one: where it lies then. -/
theorem append1 {P : Program} (w : World) (base : Nat) (t ty e : TypeId) (i : TypeInfo) (z : Value) (bytes : Nat) (hbl : bytes ≤ 1000) (ht : P.underlying t = some (.slice e)) (hi : P.info? e = some i) (hz : i.zero = some z)
    (hsize : i.size = 1) (hby : i.bytes = bytes) (hzs : z.cells.size = 1)
    (v : Value) (n : Nat) (xs : List Value) (hown : w.ownsRow base e 1 v n xs) (b : Nat) (u : Value) (hu : w.cell? ⟨b, 0, none⟩ = some u) (h1 : u.oneCell' = true) (hn : n ≤ 100000) (hbase : base ≤ w.heap.size) :
    ∃ v' w' k, (Builtin.append_ #[t, t] ty #[v, .slice (some ⟨b, 0, none⟩) 1 1]).run P w = .ok v' w' ∧ w'.ownsRow base e 1 v' (n + 1) (xs ++ [u]) ∧ w.grownBy w' v.ownBlock ∧ v'.ownBlock = some k ∧ (v.ownBlock = some k ∨ k = w.heap.size) := by
  have hnews : ∀ j x, [u][j]? = some x → w.cell? ((⟨b, 0, none⟩ : Addr).add j) = some x := by
    intro j x hj
    rw [addr_add]
    cases j with
    | zero =>
      rw [hu]
      simpa using hj
    | succ j => simp at hj
  have hmul : (n + 1) * bytes ≤ 140737488355328 := Nat.le_trans (Nat.mul_le_mul (show n + 1 ≤ 100001 by omega) hbl) (by decide)
  obtain ⟨v', w', hr, ho, hg, _⟩ := run_append_own (P := P) w base t ty e i z 1 bytes ht hi hz hsize hby hzs (by decide) v n xs hown ⟨b, 0, none⟩ 1 1 [u] rfl hnews (by simpa using h1) (by simp only [maxLen]; omega) hmul hbase
  refine ⟨v', w', ?_⟩
  have hk : ∃ k, v'.ownBlock = some k ∧ (v.ownBlock = some k ∨ k = w.heap.size) := by
    rcases hown.2 with ⟨rfl, rfl⟩ | ⟨g, cap, cur, rfl, _, hgg, hnc, hcm, hcs, htake⟩
    · have h2 := run_append_nil (P := P) w t ty e i z ht hi hz ⟨b, 0, none⟩ 1 1 [u] (by rw [hsize]; rfl) hnews (by decide) (by decide) (by omega)
      rw [hr] at h2
      injection h2 with h3 h4
      exact ⟨w.heap.size, by rw [h3]; rfl, .inr rfl⟩
    · by_cases hroom : n + 1 ≤ cap
      · have h2 := run_append_room (P := P) w t ty e i ht hi g n cap cur hgg ⟨b, 0, none⟩ 1 1 [u] (by rw [hsize]; rfl) hnews (by simpa using h1) hroom (by rw [hcs, hsize]; simp; omega)
        rw [hr] at h2
        injection h2 with h3 h4
        exact ⟨g, by rw [h3]; rfl, .inl rfl⟩
      · have holds : ∀ j x, xs[j]? = some x → w.cell? ((⟨g, 0, none⟩ : Addr).add j) = some x := hown.cells (g := g) rfl
        have h2 := run_append_grow (P := P) w t ty e i z ht hi hz ⟨g, 0, none⟩ n cap xs (by rw [hown.1, hsize]) holds ⟨b, 0, none⟩ 1 1 [u] (by rw [hsize]; rfl) hnews (by omega) (by omega) (growslice_fits (by omega) (by rw [hby]; omega))
        rw [hr] at h2
        injection h2 with h3 h4
        exact ⟨w.heap.size, by rw [h3]; rfl, .inr rfl⟩
  obtain ⟨k, h1, h2⟩ := hk
  exact ⟨k, hr, ho, hg, h1, h2⟩
/-- What has been read of a leaf, and what is left. -/
structure LeafJ (w : World) (g : Nat) (K : List Int) (V : List ByteArray) (s : ByteArray) (kv vv : Value) (wr : World) : Prop where
  box : wr.heap[w.heap.size + 1]? = some (.cells #[.bool true, kv, vv, .slice none 0 0] 26)
  res : wr.heap[w.heap.size]? = some (.cells #[.bool false, .slice none 0 0, .slice none 0 0, .slice none 0 0] 26)
  ko : wr.ownsRow (w.heap.size + 2) 27 1 kv K.length (K.map ukey)
  vo : wr.ownsRow (w.heap.size + 2) 9 1 vv V.length (V.map Value.string)
  ap : ∀ x, kv.ownBlock = some x → vv.ownBlock ≠ some x
  rd : RDn wr g s
  fr : Frm (fun k => k = g) w wr
/-- How much is left to a reader. -/
def leftN (g : Nat) (w : World) : Nat := match w.cell? ⟨g, 0, none⟩ with | some (.string s) => s.size | _ => 0
theorem leftN_is {g : Nat} {w : World} {s : ByteArray} (h : RDn w g s) : leftN g w = s.size := by unfold leftN; rw [show w.cell? ⟨g, 0, none⟩ = some (.string s) from by rw [Go.Joins.cell_of_block h]; rfl]
/-- What may turn in a round: the reader, and the rows. -/
def LF (w : World) (g : Nat) (k : Nat) : Prop := k = g ∨ w.heap.size + 2 ≤ k
set_option maxHeartbeats 800000 in
theorem leafK {w wr w5 : World} {g : Nat} {K : List Int} {V : List ByteArray} {s : ByteArray} {kv vv : Value} (hI : LeafJ w g K V s kv vv wr) (hg : g < w.heap.size) (hK : K.length ≤ 1000) (kx : Int) (m : ByteArray) (hr5 : RDn w5 g m) (hf5 : Frm (fun k => k = g) wr w5) :
    ∃ v' v6, (Builtin.append_ #[22, 22] 22 #[kv, .slice (some ⟨w5.heap.size, 0, none⟩) 1 1]).run Try.prog (w5.alloc (.cells #[.int .u64 kx] 27)) = .ok v' v6 ∧ Frm (LF w g) wr v6 ∧
      v6.heap[w.heap.size + 1]? = some (.cells #[.bool true, kv, vv, .slice none 0 0] 26) ∧ LeafJ w g (K ++ [kx]) V m v' vv (v6.setCell ⟨w.heap.size + 1, 1, none⟩ v') := by
  obtain ⟨i0, hi, hz0, hz1, hz2⟩ := info_parts info_U
  have hbx := (Array.getElem?_eq_some_iff.1 hI.box).1
  have hs5 := hf5.size
  have nog : ∀ k, w.heap.size ≤ k → ¬ k = g := fun k hk e => by omega
  have oK := (own_frm hI.ko hf5 (fun k hk => nog k (by have := (hI.ko.lt k hk).1; omega))).alloc (.cells #[.int .u64 kx] 27)
  have oV := (own_frm hI.vo hf5 (fun k hk => nog k (by have := (hI.vo.lt k hk).1; omega))).alloc (.cells #[.int .u64 kx] 27)
  have h6s : (w5.alloc (.cells #[.int .u64 kx] 27)).heap.size = w5.heap.size + 1 := by simp
  obtain ⟨v', v6, k, hr, ho, hgw, hk1, hk2⟩ := append1 (P := Try.prog) (w5.alloc (.cells #[.int .u64 kx] 27)) (w.heap.size + 2) 22 22 27 i0 (.int .u64 0) 8 (by decide) Try.underlying22 hi hz0 hz1 hz2 rfl kv K.length _ oK w5.heap.size (.int .u64 kx) (by rw [Go.Joins.cell_of_block (heap_alloc_new w5 _)]; rfl) rfl (by omega) (by omega)
  have own0 : ∀ q, kv.ownBlock = some q → w.heap.size + 2 ≤ q ∧ q < wr.heap.size := fun q hq => (hI.ko).lt q hq
  have keep : ∀ q, q < wr.heap.size → ¬ q = g → kv.ownBlock ≠ some q → v6.heap[q]? = wr.heap[q]? := fun q hq hqg hne =>
    (hgw.block q (by omega) (fun e => hne e.symm)).trans ((heap_alloc_old w5 _ (by omega)).trans (hf5.block q hq hqg))
  have bx := (keep (w.heap.size + 1) hbx (nog _ (by omega)) (fun e => by have := (own0 _ e).1; omega)).trans hI.box
  have rx := (keep w.heap.size (by omega) (nog _ (Nat.le_refl _)) (fun e => by have := (own0 _ e).1; omega)).trans hI.res
  have dx : v6.heap[g]? = some (.cells #[.string m, .bool false] 91) :=
    (hgw.block g (by omega) (fun e => by have := (own0 _ e.symm).1; omega)).trans ((heap_alloc_old w5 _ (by omega)).trans hr5)
  refine ⟨v', v6, hr, ((hf5.mono (fun i hi => .inl hi)).alloc _).grown hgw (fun q hq => .inl (.inr (own0 q hq).1)), bx, ?_⟩
  have ne1 : ∀ q, ¬ q = w.heap.size + 1 → (v6.setCell ⟨w.heap.size + 1, 1, none⟩ v').heap[q]? = v6.heap[q]? := fun q hq => Below.heap_setCell _ _ _ _ hq
  refine ⟨?_, (ne1 _ (by omega)).trans rx, ?_, ?_, ?_, (ne1 _ (by omega)).trans dx, ?_⟩
  · rw [heap_setCell_same _ _ 1 _ _ _ bx]; rfl
  · rw [List.map_append, List.length_append]; exact own_set ho _ _ _ (by show _ < _; omega)
  · exact own_set (oV.kept hgw (apart_ne fun x h1 h2 => hI.ap x h2 h1)) _ _ _ (by show _ < _; omega)
  · intro x hx hy; rw [hk1] at hx; injection hx with hx; subst hx; rcases hk2 with hk2 | hk2; exact hI.ap _ hk2 hy; have := (hI.vo.lt _ hy).2; omega
  · exact (((hI.fr.trans hf5 (fun i hi => .inl hi)).alloc _).grown hgw (fun q hq => .inr (by have := (own0 q hq).1; omega))).setCell _ _ (.inr (Nat.le_succ _))
set_option maxHeartbeats 800000 in
theorem leafV {w wr w5 : World} {g : Nat} {K : List Int} {V : List ByteArray} {s : ByteArray} {kv vv : Value} (hI : LeafJ w g K V s kv vv wr) (hg : g < w.heap.size) (hK : V.length ≤ 1000) (vx : ByteArray) (m : ByteArray) (hr5 : RDn w5 g m) (hf5 : Frm (fun k => k = g) wr w5) :
    ∃ v' v6, (Builtin.append_ #[23, 23] 23 #[vv, .slice (some ⟨w5.heap.size, 0, none⟩) 1 1]).run Try.prog (w5.alloc (.cells #[.string vx] 9)) = .ok v' v6 ∧ Frm (LF w g) wr v6 ∧
      v6.heap[w.heap.size + 1]? = some (.cells #[.bool true, kv, vv, .slice none 0 0] 26) ∧ LeafJ w g K (V ++ [vx]) m kv v' (v6.setCell ⟨w.heap.size + 1, 2, none⟩ v') := by
  obtain ⟨i0, hi, hz0, hz1, hz2⟩ := info_parts info_S
  have hbx := (Array.getElem?_eq_some_iff.1 hI.box).1
  have hs5 := hf5.size
  have nog : ∀ k, w.heap.size ≤ k → ¬ k = g := fun k hk e => by omega
  have oK := (own_frm hI.ko hf5 (fun k hk => nog k (by have := (hI.ko.lt k hk).1; omega))).alloc (.cells #[.string vx] 9)
  have oV := (own_frm hI.vo hf5 (fun k hk => nog k (by have := (hI.vo.lt k hk).1; omega))).alloc (.cells #[.string vx] 9)
  have h6s : (w5.alloc (.cells #[.string vx] 9)).heap.size = w5.heap.size + 1 := by simp
  obtain ⟨v', v6, k, hr, ho, hgw, hk1, hk2⟩ := append1 (P := Try.prog) (w5.alloc (.cells #[.string vx] 9)) (w.heap.size + 2) 23 23 9 i0 (.string ByteArray.empty) 16 (by decide) Try.underlying23 hi hz0 hz1 hz2 rfl vv V.length _ oV w5.heap.size (.string vx) (by rw [Go.Joins.cell_of_block (heap_alloc_new w5 _)]; rfl) rfl (by omega) (by omega)
  have own0 : ∀ q, vv.ownBlock = some q → w.heap.size + 2 ≤ q ∧ q < wr.heap.size := fun q hq => (hI.vo).lt q hq
  have keep : ∀ q, q < wr.heap.size → ¬ q = g → vv.ownBlock ≠ some q → v6.heap[q]? = wr.heap[q]? := fun q hq hqg hne =>
    (hgw.block q (by omega) (fun e => hne e.symm)).trans ((heap_alloc_old w5 _ (by omega)).trans (hf5.block q hq hqg))
  have bx := (keep (w.heap.size + 1) hbx (nog _ (by omega)) (fun e => by have := (own0 _ e).1; omega)).trans hI.box
  have rx := (keep w.heap.size (by omega) (nog _ (Nat.le_refl _)) (fun e => by have := (own0 _ e).1; omega)).trans hI.res
  have dx : v6.heap[g]? = some (.cells #[.string m, .bool false] 91) :=
    (hgw.block g (by omega) (fun e => by have := (own0 _ e.symm).1; omega)).trans ((heap_alloc_old w5 _ (by omega)).trans hr5)
  refine ⟨v', v6, hr, ((hf5.mono (fun i hi => .inl hi)).alloc _).grown hgw (fun q hq => .inl (.inr (own0 q hq).1)), bx, ?_⟩
  have ne1 : ∀ q, ¬ q = w.heap.size + 1 → (v6.setCell ⟨w.heap.size + 1, 2, none⟩ v').heap[q]? = v6.heap[q]? := fun q hq => Below.heap_setCell _ _ _ _ hq
  refine ⟨?_, (ne1 _ (by omega)).trans rx, ?_, ?_, ?_, (ne1 _ (by omega)).trans dx, ?_⟩
  · rw [heap_setCell_same _ _ 2 _ _ _ bx]; rfl
  · exact own_set (oK.kept hgw (apart_ne fun x h1 h2 => hI.ap x h1 h2)) _ _ _ (by show _ < _; omega)
  · rw [List.map_append, List.length_append]; exact own_set ho _ _ _ (by show _ < _; omega)
  · intro x hx hy; rw [hk1] at hy; injection hy with hy; subst hy; rcases hk2 with hk2 | hk2; exact hI.ap _ hx hk2; have := (hI.ko.lt _ hx).2; omega
  · exact (((hI.fr.trans hf5 (fun i hi => .inl hi)).alloc _).grown hgw (fun q hq => .inr (by have := (own0 q hq).1; omega))).setCell _ _ (.inr (Nat.le_succ _))
theorem LeafJ.done {w wr : World} {g : Nat} {K : List Int} {V : List ByteArray} {s : ByteArray} {kv vv : Value} (hI : LeafJ w g K V s kv vv wr) (hg : g < w.heap.size) (hok : NodOk ⟨true, K, V, []⟩) :
    NodBack w.heap.size ⟨true, K, V, []⟩ (.returned (.agg #[.bool true, kv, vv, .slice none 0 0])) ((((wr.setCell ⟨w.heap.size, 0, none⟩ (.bool true)).setCell ⟨w.heap.size, 1, none⟩ kv).setCell ⟨w.heap.size, 2, none⟩ vv).setCell ⟨w.heap.size, 3, none⟩ (.slice none 0 0)) ∧ RDn ((((wr.setCell ⟨w.heap.size, 0, none⟩ (.bool true)).setCell ⟨w.heap.size, 1, none⟩ kv).setCell ⟨w.heap.size, 2, none⟩ vv).setCell ⟨w.heap.size, 3, none⟩ (.slice none 0 0)) g s ∧ Frm (fun k => k = g) w ((((wr.setCell ⟨w.heap.size, 0, none⟩ (.bool true)).setCell ⟨w.heap.size, 1, none⟩ kv).setCell ⟨w.heap.size, 2, none⟩ vv).setCell ⟨w.heap.size, 3, none⟩ (.slice none 0 0)) := by
  obtain ⟨ak, ck, e1, r1, l1, m1⟩ := Rd.own hI.ko
  obtain ⟨av, cv, e2, r2, l2, m2⟩ := Rd.own hI.vo
  have b1 : ∀ x, ak = some x → w.heap.size + 2 ≤ x.block := fun x hx => (hI.ko.lt x.block (by rw [e1, hx]; rfl)).1
  have b2 : ∀ x, av = some x → w.heap.size + 2 ≤ x.block := fun x hx => (hI.vo.lt x.block (by rw [e2, hx]; rfl)).1
  subst e1 e2
  rw [List.length_map] at l1 l2
  have hne : ∀ i, g ≠ (⟨w.heap.size, i, none⟩ : Addr).block := fun i => by show g ≠ w.heap.size; omega
  refine ⟨⟨ak, av, none, ck, cv, 0, ?_, ⟨r1.set4 _ _ _ _ _ (fun x hx => by have := b1 x hx; omega), r2.set4 _ _ _ _ _ (fun x hx => by have := b2 x hx; omega), .inl rfl, l1, m1, l2, m2, Nat.le_refl _, Nat.zero_le _, hok⟩, fun x hx => by have := b1 x hx; omega, fun x hx => by have := b2 x hx; omega, fun x hx => by cases hx⟩, ?_, ?_⟩
  · unfold nodV; simp only [List.length_map, List.length_nil]
  · unfold RDn
    rw [Below.heap_setCell _ _ _ _ (hne 3), Below.heap_setCell _ _ _ _ (hne 2), Below.heap_setCell _ _ _ _ (hne 1), Below.heap_setCell _ _ _ _ (hne 0)]
    exact hI.rd
  · exact (((hI.fr.setCell _ _ (.inr (Nat.le_refl _))).setCell _ _ (.inr (Nat.le_refl _))).setCell _ _ (.inr (Nat.le_refl _))).setCell _ _ (.inr (Nat.le_refl _))

set_option maxHeartbeats 3200000 in
set_option maxRecDepth 20000 in
theorem rleaf_ok (g : Nat) (K : List Int) (V : List ByteArray) (lf mid : Nat → ByteArray) (w : World) (h : RDn w g (lf 0)) (hV : V.length = K.length) (hok : NodOk ⟨true, K, V, []⟩) (hend : lf K.length = ⟨#[]⟩)
    (hst : ∀ j (h1 : j < K.length) (h2 : j < V.length), lf j ≠ ⟨#[]⟩ ∧ takeN (lf j) 8 = K[j] ∧ takeR (lf j) 8 = mid j ∧ takeE (lf j) 8 = 0 ∧ ttS (mid j) = V[j] ∧ ttR (mid j) = lf (j + 1) ∧ ttE (mid j) = 0 ∧ (mid j).size ≤ 9223372036854775807 ∧ (lf (j + 1)).size < (lf j).size) :
    Calls Try.prog 52 #[.pointer (some ⟨g, 0, none⟩)] w fun e w' => NodBack w.heap.size ⟨true, K, V, []⟩ e w' ∧ RDn w' g ⟨#[]⟩ ∧ Frm (fun k => k = g) w w' := by
  have HG := Lib.hid (Array.getElem?_eq_some_iff.1 h).1
  have HST := Lib.hid hst
  have HOK := Lib.hid hok
  have k1 := hok.k1
  have HEND := Lib.hid hend
  have HV := Lib.hid hV
  have NUM := Lib.hid (fun (s r : ByteArray) (v : Int) w5 (h : RDn w5 g s) a b c => rnumber_ok g s r 8 v w5 h a b c)
  have TXT := Lib.hid (fun (s r v : ByteArray) w5 (h : RDn w5 g s) m a b c => rtext_ok g s r v w5 h m a b c)
  have W0 : Hid (LeafJ w g [] [] (lf 0) (.slice none 0 0) (.slice none 0 0) ((w.alloc (.cells #[.bool false, .slice none 0 0, .slice none 0 0, .slice none 0 0] 26)).alloc (.cells #[.bool true, .slice none 0 0, .slice none 0 0, .slice none 0 0] 26))) := Lib.hid
    ⟨by rw [← show (w.alloc (.cells #[.bool false, .slice none 0 0, .slice none 0 0, .slice none 0 0] 26)).heap.size = w.heap.size + 1 from by simp]; exact heap_alloc_new _ _,
      (heap_alloc_old _ _ (by simp)).trans (heap_alloc_new w _), World.ownsRow_nil _ _ _ _, World.ownsRow_nil _ _ _ _, (fun x hx => by cases hx),
      (heap_alloc_old _ _ (by simp; have := HG.out; omega)).trans ((heap_alloc_old w _ HG.out).trans h), ((Frm.refl _ w).alloc _).alloc _⟩
  obtain ⟨n, hn⟩ : ∃ n, K.length = n := ⟨_, rfl⟩
  clear h hst hok hend hV
  go_enter Try.func52, Try.ntmps52
  go_wp2_with fail
  go_loopw [] (fun wr => ∃ (j : Nat) (kv vv : Value), j ≤ n ∧ LeafJ w g (K.take j) (V.take j) (lf j) kv vv wr) (fun wr => leftN g wr)
  case atStart => exact ⟨0, _, _, Nat.zero_le _, W0.out⟩
  case round =>
    obtain ⟨j, kv, vv, hj, hJ⟩ := hrel
    obtain ⟨ka, kc, hkv, -, -, -⟩ := Rd.own hJ.ko
    obtain ⟨va, vc, hvv, -, -, -⟩ := Rd.own hJ.vo
    obtain ⟨kl, hkl⟩ : ∃ kl, (List.map ukey (K.take j)).length = kl := ⟨_, rfl⟩
    obtain ⟨vl, hvl⟩ : ∃ vl, (List.map Value.string (V.take j)).length = vl := ⟨_, rfl⟩
    rw [hkl] at hkv
    rw [hvl] at hvv
    subst hkv hvv
    clear hkl hvl
    have HJ := Lib.hid hJ
    have hb := hJ.box
    have HB := Lib.hid hb
    have rd0 : wr.cell? ⟨g, 0, none⟩ = some (.string (lf j)) := by rw [Go.Joins.cell_of_block hJ.rd]; rfl
    have ltN : w.heap.size + 1 < wr.heap.size := (Array.getElem?_eq_some_iff.1 hb).1
    have nF : ¬ LF w g (w.heap.size + 1) := fun hx => by rcases hx with hx | hx; have := HG.out; omega; omega
    clear hJ W0
    by_cases hlt : j < n
    · have hjk : j < K.length := by omega
      have hjv : j < V.length := by rw [HV.out]; omega
      obtain ⟨hne, a1, a2, a3, a4, a5, a6, a7, a8⟩ := HST.out j hjk hjv
      have t1 : K.take (j + 1) = K.take j ++ [K[j]] := List.take_succ_eq_append_getElem hjk
      have t2 : V.take (j + 1) = V.take j ++ [V[j]] := List.take_succ_eq_append_getElem hjv
      have NX := Lib.hid (fun w5 h => NUM.out (lf j) (mid j) (K[j]) w5 h (Lib.hid a1) (Lib.hid a2) (Lib.hid a3))
      have TX := Lib.hid (fun w5 h => TXT.out (mid j) (lf (j + 1)) (V[j]) w5 h a7 (Lib.hid a4) (Lib.hid a5) (Lib.hid a6))
      have HLK : Hid ((K.take j).length ≤ 1000) := Lib.hid (by rw [List.length_take]; omega)
      have HLV : Hid ((V.take j).length ≤ 1000) := Lib.hid (by rw [List.length_take, HV.out]; omega)
      have T1 := Lib.hid t1
      have T2 := Lib.hid t2
      clear a1 a2 a3 a4 a5 a6 a7 t1 t2
      generalize K[j] = kx at *
      generalize V[j] = vx at *
      generalize K.take j = Kj at *
      generalize V.take j = Vj at *
      generalize hs : lf j = s at *
      generalize hm : mid j = m at *
      generalize hs' : lf (j + 1) = s' at *
      clear hs hm
      have hem : s.toList.isEmpty = false := nonempty _ (by omega)
      have A8 := Lib.hid a8
      clear a8
      clear hne
      go_wp2_with fail
      refine region_ways (fun w' => Frm (LF w g) wr w') 7 (by kernel_rfl) ?_
      have hS := ((Frm.refl (LF w g) wr).drew)
      refine ways_skipd (i := 0) 10 (v := ?vk0) rfl rfl (by kernel_rfl) (by kernel_rfl) (by kernel_rfl) (by kernel_rfl) (fun _ _ _ h => h) hS (by rfl) ?hk0 ?rk0
      case hk0 =>
        intro w9
        go_simp
        try (with_reducible rfl)
      simp only [List.setIfInBounds_toArray, List.set_cons_zero, List.set_cons_succ]
      refine ways_taked (i := 1) 11 (v := ?vk1) rfl rfl (by kernel_rfl) (by kernel_rfl) (by kernel_rfl) (by kernel_rfl) (fun _ _ _ h => h) hS (by rfl) ?hk1 ?rk1
      case hk1 =>
        intro w9 s9
        have cN : w9.cell? ⟨w.heap.size + 1, 1, none⟩ = some (.slice ka kl kc) := by rw [Go.Joins.cell_of_block ((s9.block _ (Array.getElem?_eq_some_iff.1 HB.out).1 nF).trans HB.out)]; rfl
        go_simp
        try (with_reducible rfl)
      simp only [List.setIfInBounds_toArray, List.set_cons_zero, List.set_cons_succ]
      refine ways_skipd (i := 2) 12 (v := ?vk2) rfl rfl (by kernel_rfl) (by kernel_rfl) (by kernel_rfl) (by kernel_rfl) (fun _ _ _ h => h) hS (by rfl) ?hk2 ?rk2
      case hk2 =>
        intro w9
        go_simp
        try (with_reducible rfl)
      simp only [List.setIfInBounds_toArray, List.set_cons_zero, List.set_cons_succ]
      refine ways_step (i := 3) rfl (by kernel_rfl) (fun K hK => ?_)
      have HK := Lib.hid hK
      clear hK
      go_simp
      go_wp2_with fail
      refine (NX.out wr.drew (show RDn wr.drew g s from HJ.out.rd)).mono ?_
      rintro e w5 ⟨rfl, hr5, hf5⟩
      have hS5 := hS.trans hf5 (fun i hi => .inl (.inl hi))
      clear hS
      have hS := hS5
      clear hS5
      obtain ⟨v', v6, hap, F6, B6, J6⟩ := leafK HJ.out HG.out HLK.out kx m hr5 ((Frm.refl (fun k => k = g) wr).drew.trans hf5 (fun i hi => .inl hi))
      obtain ⟨qak, qck, hqv, -, -, -⟩ := Rd.own J6.ko
      obtain ⟨qlk, hql⟩ : ∃ ql, (List.map ukey (Kj ++ [kx])).length = ql := ⟨_, rfl⟩
      rw [hql] at hqv
      subst hqv
      clear hql
      have HAP := Lib.hid hap
      have F6H := Lib.hid F6
      have y0 : v6.cell? ⟨w.heap.size + 1, 1, none⟩ = some (.slice ka kl kc) := by rw [Go.Joins.cell_of_block B6]; rfl
      have f0 := Go.Joins.unfrozen_of_block B6 1
      have J6H := Lib.hid J6
      clear hap F6 B6 J6 hr5 hf5
      refine HK.out _ _ ?_ (fun _ => hS)
      clear HK K
      try simp only [Act.put, List.setIfInBounds_toArray, List.set_cons_zero, List.set_cons_succ]
      refine ways_step (i := 4) rfl (by kernel_rfl) (fun K hK => ?_)
      have HK := Lib.hid hK
      clear hK
      go_simp
      have hS6 := hS.alloc (.cells #[(.int .u64 kx)] 27)
      clear hS
      have hS := hS6
      clear hS6
      refine HK.out _ _ ?_ (fun _ => hS)
      clear HK K
      try simp only [Act.put, List.setIfInBounds_toArray, List.set_cons_zero, List.set_cons_succ]
      refine ways_step (i := 5) rfl (by kernel_rfl) (fun K hK => ?_)
      have HK := Lib.hid hK
      clear hK
      refine step_append_rund (by rfl) 15 (by rfl) (.tmp 11) (.tmp 14) 22 (by rfl) _ _ _ (by rfl) (by rfl) HAP.out ?_
      clear hS HAP
      have hS := F6H.out
      refine HK.out _ _ ?_ (fun _ => hS)
      clear HK K
      try simp only [Act.put, List.setIfInBounds_toArray, List.set_cons_zero, List.set_cons_succ]
      refine ways_skipd (i := 6) 16 (v := ?vk6) rfl rfl (by kernel_rfl) (by kernel_rfl) (by kernel_rfl) (by kernel_rfl) (fun _ _ _ h => h) hS (by rfl) ?hk6 ?rk6
      case hk6 =>
        intro w9
        go_simp
        try (with_reducible rfl)
      simp only [List.setIfInBounds_toArray, List.set_cons_zero, List.set_cons_succ]
      refine ways_step (i := 7) rfl (by kernel_rfl) (fun K hK => ?_)
      have HK := Lib.hid hK
      clear hK
      go_simp
      refine HK.out _ _ ?_ (fun h => absurd rfl h)
      clear HK K
      refine ways_done (by kernel_rfl) ?_
      obtain ⟨wq, hwq⟩ : ∃ wq, v6.setCell ⟨w.heap.size + 1, 1, none⟩ (.slice qak qlk qck) = wq := ⟨_, rfl⟩
      rw [hwq] at J6H ⊢
      have HB2 := Lib.hid J6H.out.box
      clear hwq F6H rd0 ltN hem
      go_wp2_with fail
      refine region_ways (fun w' => Frm (LF w g) wq w') 7 (by kernel_rfl) ?_
      have hS := ((Frm.refl (LF w g) wq).drew)
      refine ways_skipd (i := 0) 17 (v := ?vv0) rfl rfl (by kernel_rfl) (by kernel_rfl) (by kernel_rfl) (by kernel_rfl) (fun _ _ _ h => h) hS (by rfl) ?hv0 ?rv0
      case hv0 =>
        intro w9
        go_simp
        try (with_reducible rfl)
      simp only [List.setIfInBounds_toArray, List.set_cons_zero, List.set_cons_succ]
      refine ways_taked (i := 1) 18 (v := ?vv1) rfl rfl (by kernel_rfl) (by kernel_rfl) (by kernel_rfl) (by kernel_rfl) (fun _ _ _ h => h) hS (by rfl) ?hv1 ?rv1
      case hv1 =>
        intro w9 s9
        have cN : w9.cell? ⟨w.heap.size + 1, 2, none⟩ = some (.slice va vl vc) := by rw [Go.Joins.cell_of_block ((s9.block _ (Array.getElem?_eq_some_iff.1 HB2.out).1 nF).trans HB2.out)]; rfl
        go_simp
        try (with_reducible rfl)
      simp only [List.setIfInBounds_toArray, List.set_cons_zero, List.set_cons_succ]
      refine ways_skipd (i := 2) 19 (v := ?vv2) rfl rfl (by kernel_rfl) (by kernel_rfl) (by kernel_rfl) (by kernel_rfl) (fun _ _ _ h => h) hS (by rfl) ?hv2 ?rv2
      case hv2 =>
        intro w9
        go_simp
        try (with_reducible rfl)
      simp only [List.setIfInBounds_toArray, List.set_cons_zero, List.set_cons_succ]
      refine ways_step (i := 3) rfl (by kernel_rfl) (fun K hK => ?_)
      have HK := Lib.hid hK
      clear hK
      go_simp
      go_wp2_with fail
      refine (TX.out wq.drew (show RDn wq.drew g m from J6H.out.rd)).mono ?_
      rintro e w5 ⟨rfl, hr5, hf5⟩
      have hS5 := hS.trans hf5 (fun i hi => .inl (.inl hi))
      clear hS
      have hS := hS5
      clear hS5
      obtain ⟨v9, v6, hap, F6, B6, J6⟩ := leafV J6H.out HG.out HLV.out vx s' hr5 ((Frm.refl (fun k => k = g) wq).drew.trans hf5 (fun i hi => .inl hi))
      obtain ⟨qav, qcv, hqv, -, -, -⟩ := Rd.own J6.vo
      obtain ⟨qlv, hql⟩ : ∃ ql, (List.map Value.string (Vj ++ [vx])).length = ql := ⟨_, rfl⟩
      rw [hql] at hqv
      subst hqv
      clear hql
      have HAP := Lib.hid hap
      have F6H := Lib.hid F6
      have y0 : v6.cell? ⟨w.heap.size + 1, 2, none⟩ = some (.slice va vl vc) := by rw [Go.Joins.cell_of_block B6]; rfl
      have f0 := Go.Joins.unfrozen_of_block B6 2
      have J6Hv := Lib.hid J6
      clear hap F6 B6 J6 hr5 hf5
      refine HK.out _ _ ?_ (fun _ => hS)
      clear HK K
      try simp only [Act.put, List.setIfInBounds_toArray, List.set_cons_zero, List.set_cons_succ]
      refine ways_step (i := 4) rfl (by kernel_rfl) (fun K hK => ?_)
      have HK := Lib.hid hK
      clear hK
      go_simp
      have hS6 := hS.alloc (.cells #[(.string vx)] 9)
      clear hS
      have hS := hS6
      clear hS6
      refine HK.out _ _ ?_ (fun _ => hS)
      clear HK K
      try simp only [Act.put, List.setIfInBounds_toArray, List.set_cons_zero, List.set_cons_succ]
      refine ways_step (i := 5) rfl (by kernel_rfl) (fun K hK => ?_)
      have HK := Lib.hid hK
      clear hK
      refine step_append_rund (by rfl) 22 (by rfl) (.tmp 18) (.tmp 21) 23 (by rfl) _ _ _ (by rfl) (by rfl) HAP.out ?_
      clear hS HAP
      have hS := F6H.out
      refine HK.out _ _ ?_ (fun _ => hS)
      clear HK K
      try simp only [Act.put, List.setIfInBounds_toArray, List.set_cons_zero, List.set_cons_succ]
      refine ways_skipd (i := 6) 23 (v := ?vv6) rfl rfl (by kernel_rfl) (by kernel_rfl) (by kernel_rfl) (by kernel_rfl) (fun _ _ _ h => h) hS (by rfl) ?hv6 ?rv6
      case hv6 =>
        intro w9
        go_simp
        try (with_reducible rfl)
      simp only [List.setIfInBounds_toArray, List.set_cons_zero, List.set_cons_succ]
      refine ways_step (i := 7) rfl (by kernel_rfl) (fun K hK => ?_)
      have HK := Lib.hid hK
      clear hK
      go_simp
      refine HK.out _ _ ?_ (fun h => absurd rfl h)
      clear HK K
      refine ways_done (by kernel_rfl) ?_
      go_wp2_with fail
      go_roundw
      case rel => exact ⟨j + 1, _, _, by omega, by rw [T1.out, T2.out, hs']; exact J6Hv.out⟩
      case measure => rw [leftN_is J6Hv.out.rd, leftN_is HJ.out.rd]; exact A8.out
    · obtain rfl : j = n := by omega
      have e1 : K.take j = K := by rw [← hn]; exact List.take_length
      have e2 : V.take j = V := by rw [← hn, ← HV.out]; exact List.take_length
      have e3 : lf j = ⟨#[]⟩ := by rw [← hn]; exact HEND.out
      rw [e1, e2, e3] at HJ
      rw [e3] at rd0
      have RB := HJ.out.res
      have y0 : wr.cell? ⟨w.heap.size, 0, none⟩ = some (.bool false) := by rw [Go.Joins.cell_of_block RB]; rfl
      have y1 : wr.cell? ⟨w.heap.size, 1, none⟩ = some (.slice none 0 0) := by rw [Go.Joins.cell_of_block RB]; rfl
      have y2 : wr.cell? ⟨w.heap.size, 2, none⟩ = some (.slice none 0 0) := by rw [Go.Joins.cell_of_block RB]; rfl
      have y3 : wr.cell? ⟨w.heap.size, 3, none⟩ = some (.slice none 0 0) := by rw [Go.Joins.cell_of_block RB]; rfl
      have f0 := Go.Joins.unfrozen_of_block RB 0
      have f1 := Go.Joins.unfrozen_of_block RB 1
      have f2 := Go.Joins.unfrozen_of_block RB 2
      have f3 := Go.Joins.unfrozen_of_block RB 3
      have n0 : wr.cell? ⟨w.heap.size + 1, 0, none⟩ = some (.bool true) := by rw [Go.Joins.cell_of_block hb]; rfl
      have n1 : wr.cell? ⟨w.heap.size + 1, 1, none⟩ = some (.slice ka kl kc) := by rw [Go.Joins.cell_of_block hb]; rfl
      have n2 : wr.cell? ⟨w.heap.size + 1, 2, none⟩ = some (.slice va vl vc) := by rw [Go.Joins.cell_of_block hb]; rfl
      have n3 : wr.cell? ⟨w.heap.size + 1, 3, none⟩ = some (.slice none 0 0) := by rw [Go.Joins.cell_of_block hb]; rfl
      have XR : ((((wr.setCell ⟨w.heap.size, 0, none⟩ (.bool true)).setCell ⟨w.heap.size, 1, none⟩ (.slice ka kl kc)).setCell ⟨w.heap.size, 2, none⟩ (.slice va vl vc)).setCell ⟨w.heap.size, 3, none⟩ (.slice none 0 0)).heap[w.heap.size]? = some (.cells #[.bool true, .slice ka kl kc, .slice va vl vc, .slice none 0 0] 26) := by
        rw [heap_setCell_same _ _ 3 _ _ _ (heap_setCell_same _ _ 2 _ _ _ (heap_setCell_same _ _ 1 _ _ _ (heap_setCell_same _ _ 0 _ _ _ RB)))]
        rfl
      have Z0 : Hid (((((wr.setCell ⟨w.heap.size, 0, none⟩ (.bool true)).setCell ⟨w.heap.size, 1, none⟩ (.slice ka kl kc)).setCell ⟨w.heap.size, 2, none⟩ (.slice va vl vc)).setCell ⟨w.heap.size, 3, none⟩ (.slice none 0 0)).cell? ⟨w.heap.size, 0, none⟩ = some (.bool true)) := Lib.hid (by rw [Go.Joins.cell_of_block XR]; rfl)
      have Z1 : Hid (((((wr.setCell ⟨w.heap.size, 0, none⟩ (.bool true)).setCell ⟨w.heap.size, 1, none⟩ (.slice ka kl kc)).setCell ⟨w.heap.size, 2, none⟩ (.slice va vl vc)).setCell ⟨w.heap.size, 3, none⟩ (.slice none 0 0)).cell? ⟨w.heap.size, 1, none⟩ = some (.slice ka kl kc)) := Lib.hid (by rw [Go.Joins.cell_of_block XR]; rfl)
      have Z2 : Hid (((((wr.setCell ⟨w.heap.size, 0, none⟩ (.bool true)).setCell ⟨w.heap.size, 1, none⟩ (.slice ka kl kc)).setCell ⟨w.heap.size, 2, none⟩ (.slice va vl vc)).setCell ⟨w.heap.size, 3, none⟩ (.slice none 0 0)).cell? ⟨w.heap.size, 2, none⟩ = some (.slice va vl vc)) := Lib.hid (by rw [Go.Joins.cell_of_block XR]; rfl)
      have Z3 : Hid (((((wr.setCell ⟨w.heap.size, 0, none⟩ (.bool true)).setCell ⟨w.heap.size, 1, none⟩ (.slice ka kl kc)).setCell ⟨w.heap.size, 2, none⟩ (.slice va vl vc)).setCell ⟨w.heap.size, 3, none⟩ (.slice none 0 0)).cell? ⟨w.heap.size, 3, none⟩ = some (.slice none 0 0)) := Lib.hid (by rw [Go.Joins.cell_of_block XR]; rfl)
      have FIN := Lib.hid (HJ.out.done HG.out HOK.out)
      clear RB XR e1 e2 e3
      go_wp2_with fail
      exact bodyPost_ret (v := .agg #[.bool true, .slice ka kl kc, .slice va vl vc, .slice none 0 0]) (by simp [results, Try.results52, go_sem, Z0.out, Z1.out, Z2.out, Z3.out]) rfl FIN.out
end Go.Proofs.Ytkdcoipbdkmieaa
