/-
 TrSc, RgK, RgM, TrPg, Tx, Tg, HeldIn.
-/
import Derived.Test.YtmomlhiokggfbaaGreatDoorC18
import Derived.Test.YtmomlhiokggfbaaGreatDoorC04
import Derived.RangeFuncNested
import Derived.RangeFuncLeaves
import Derived.LoopIn
import Derived.TacticsIn
import Derived.Test.YtmomlhiokggfbaaGreatDoorC03
import Derived.Test.YtmomlhiokggfbaaGreatDoorC12
import Derived.BigQuiet
import Derived.OrdersIn
import Derived.ControlIn
namespace Go.Proofs.YtmomlhiokggfbaaGreatDoor
set_option maxRecDepth 20000
set_option maxHeartbeats 12800000
set_option linter.unusedVariables false
set_option linter.unusedSimpArgs false
def scanE (key : Int) (E : List Ent) : List Ent := E.filter fun e => decide (key ≤ e.1)
theorem ents_zip : ∀ (K : List Int) (V : List ByteArray), entsM (leafM K V) = K.zip V := by
 intro K
 induction K with
 | nil => intro V; cases V <;> rfl
 | cons k K ih =>
  intro V
  cases V with
  | nil => rfl
  | cons v V => simp only [leafM, entsM_ent, ih, List.zip_cons_cons]
theorem zip_fst {K : List Int} {V : List ByteArray} {e : Ent} (h : e ∈ K.zip V) : e.1 ∈ K := (List.of_mem_zip (a := e.1) (b := e.2) h).1
theorem scan_leaf {R : Int → Option Nod} {N : Nod} {F : List Mk} {P : List Int} (ht : NodT R 0 N F P) (hs : SortM F) (key : Int) :
  ∃ i fd, findN N key = (i, fd) ∧ i ≤ N.K.length ∧ scanE key (entsM F) = (N.K.zip N.V).drop i := by
 have hw := whole_of ht;have hr := rise_of_sort ht hs;obtain ⟨h1, h2, h3, rfl, rfl⟩ := ht
 have step : ∀ i, i ≤ N.K.length → (∀ x ∈ N.K.take i, x < key) → (∀ x ∈ N.K.drop i, key ≤ x) → scanE key (entsM (leafM N.K N.V)) = (N.K.zip N.V).drop i := by
  intro i hi ha hb
  have hd : N.K.zip N.V = (N.K.take i).zip (N.V.take i) ++ (N.K.drop i).zip (N.V.drop i) := by
   rw [← List.zip_append (by simp [h2])];rw [List.take_append_drop, List.take_append_drop]
  rw [ents_zip]
  conv => lhs; rw [hd]
  unfold scanE;rw [List.filter_append, filter_none _ _ (fun e he => decide_eq_false (by have := ha _ (zip_fst he); omega)), filter_all _ _ (fun e he => decide_eq_true (hb _ (zip_fst he))), List.nil_append];exact (List.drop_zipWith (f := Prod.mk) (l := N.K) (l' := N.V) (i := i)).symm
 obtain ⟨q, h⟩ := findL key N.K 0 hr
 rcases h with ⟨e1, e2, e3, e4, e5⟩ | ⟨e1, e2, e3, e4⟩
 ·refine ⟨q, true, ?_, by omega, step q (by omega) e4 fun x hx => ?_⟩
  ·unfold findN; rw [if_pos hw, h1, e1, Nat.zero_add]
  ·have hq : N.K.drop q = key :: N.K.drop (q + 1) := by
    rw [List.drop_eq_getElem_cons e2]
    congr 1
    rw [List.getElem?_eq_getElem e2] at e3;exact Option.some.inj e3
   rw [hq] at hx
   rcases List.mem_cons.1 hx with rfl | hx
   ·exact Int.le_refl _
   ·have := e5 x hx; omega
 ·refine ⟨q, false, ?_, e2, step q e2 e3 fun x hx => by have := e4 x hx; omega⟩
  unfold findN; rw [if_pos hw, h1, e1, Nat.zero_add]
theorem entsM_inter : ∀ (K : List Int) (Q : List Kid), Q.length = K.length + 1 → entsM (interM K Q) = (Q.map fun q => entsM q.F).flatten := by
 intro K
 induction K with
 | nil =>
  intro Q h
  match Q, h with
  | [q], _ => simp [interM]
 | cons k K ih =>
  intro Q h
  match Q, h with
  | q :: Q, h =>
   show entsM (q.F ++ (k, none) :: interM K Q) = _
   rw [entsM_append, entsM_sep, ih Q (by simpa using h)]
   rfl
theorem sort_kids : ∀ (K : List Int) (Q : List Kid), Q.length = K.length + 1 → SortM (interM K Q) → ∀ q ∈ Q, SortM q.F := by
 intro K
 induction K with
 | nil =>
  intro Q h hs q hq
  match Q, h with
  | [q0], _ => rw [List.mem_singleton] at hq; subst hq; exact hs
 | cons k K ih =>
  intro Q h hs q hq
  match Q, h with
  | q0 :: Q, h =>
   obtain ⟨s1, s2, s3⟩ := SortM_append.1 (show SortM (q0.F ++ (k, none) :: interM K Q) from hs)
   rcases List.mem_cons.1 hq with rfl | hq
   ·exact s1
   ·exact ih Q (by simpa using h) (SortM_cons.1 s2).2 q hq
theorem scanE_append (key : Int) (A B : List Ent) : scanE key (A ++ B) = scanE key A ++ scanE key B := List.filter_append ..
theorem scanE_flat (key : Int) (Q : List Kid) : scanE key (Q.map fun q => entsM q.F).flatten = (Q.map fun q => scanE key (entsM q.F)).flatten := by
 induction Q with
 | nil => rfl
 | cons q Q ih => rw [List.map_cons, List.flatten_cons, scanE_append, ih]; rfl
theorem scan_kids (key : Int) : ∀ (i : Nat) (K : List Int) (Q : List Kid), Q.length = K.length + 1 → SortM (interM K Q) → i ≤ K.length → (∀ x ∈ K.take i, x ≤ key) → scanE key (entsM (interM K Q)) = ((Q.drop i).map fun q => scanE key (entsM q.F)).flatten := by
 intro i
 induction i with
 | zero => intro K Q h _ _ _; rw [entsM_inter K Q h, scanE_flat]; rfl
 | succ i ih =>
  intro K Q h hs hi ha
  match K, Q, h with
  | [], _, _ => exact absurd hi (by simp)
  | k :: K, q :: Q, h =>
   obtain ⟨s1, s2, s3⟩ := SortM_append.1 (show SortM (q.F ++ (k, none) :: interM K Q) from hs)
   show scanE key (entsM (q.F ++ (k, none) :: interM K Q)) = _
   rw [entsM_append, entsM_sep, scanE_append, ih K Q (by simpa using h) (SortM_cons.1 s2).2 (by simpa using hi) (fun x hx => ha x (by simp [hx]))];have hk : k ≤ key := ha k (by simp)
   have : scanE key (entsM q.F) = [] := by
    refine filter_none _ _ fun e he => decide_eq_false ?_
    obtain ⟨m, hm, hme⟩ := List.mem_filterMap.1 he;have := s3 m hm (k, none) (List.mem_cons_self ..);rw [ord_sep] at this;obtain ⟨a, b⟩ := m
    cases b with
    | none => simp [entM] at hme
    | some b => simp [entM] at hme; subst hme; rw [ord_ent] at this; show ¬ key ≤ a; omega
   rw [this]; rfl
theorem scan_branch {R : Int → Option Nod} {h : Nat} {N : Nod} {F : List Mk} {P : List Int} (ht : NodT R (h + 1) N F P) (hs : SortM F) (key : Int) :
  ∃ Q i, findN N key = (i, true) ∧ i ≤ N.K.length ∧ N.C = kP Q ∧ Q.length = N.K.length + 1 ∧ (∀ q ∈ Q, IsT R h q.p q.F q.P ∧ SortM q.F) ∧ scanE key (entsM F) = ((Q.drop i).map fun q => scanE key (entsM q.F)).flatten ∧ P = kPs Q := by
 have hw := whole_of ht;have hr := rise_of_sort ht hs;obtain ⟨h1, h2, Q, h3, h4, h5, rfl, rfl⟩ := NodT_succ.1 ht;obtain ⟨q, e1, e2, e3, e4⟩ := findB key N.K 0 hr;refine ⟨Q, q, ?_, e2, h3, h4, fun x hx => ⟨h5 x hx, sort_kids _ _ h4 hs x hx⟩, scan_kids key q N.K Q h4 hs e2 e3, rfl⟩;unfold findN; rw [if_pos hw, h1, e1, Nat.zero_add]
theorem kPs_drop (Q : List Kid) (i : Nat) : (kPs (Q.drop i)).length ≤ (kPs Q).length := by
 conv => rhs; rw [← List.take_append_drop i Q, kPs_append, List.length_append]
 omega
end Go.Proofs.YtmomlhiokggfbaaGreatDoor
namespace Go.Proofs.YtmomlhiokggfbaaGreatDoor
open Go Go.RowKit
set_option maxRecDepth 20000
set_option maxHeartbeats 12800000
set_option linter.unusedVariables false
set_option linter.unusedSimpArgs false
structure OnC (C : Nat → Prop) (w w' : World) : Prop where
 os : w'.os = w.os
 tape : w'.tape = w.tape
 output : w'.output = w.output
 size : w.heap.size ≤ w'.heap.size
 block : ∀ k, k < w.heap.size → C k → w'.heap[k]? = w.heap[k]?
theorem OnC.of_frm {C G : Nat → Prop} {w w' : World} (h : Frm G w w') (hd : ∀ k, C k → ¬ G k) : OnC C w w' := ⟨h.os, h.tape, h.output, h.size, fun k hk hc => h.block k hk (hd k hc)⟩
theorem OnC.mono {C D : Nat → Prop} {w w' : World} (h : OnC C w w') (hd : ∀ k, D k → C k) : OnC D w w' := ⟨h.os, h.tape, h.output, h.size, fun k hk hc => h.block k hk (hd k hc)⟩
theorem OnC.trans {C : Nat → Prop} {a b c : World} (h : OnC C a b) (k : OnC C b c) : OnC C a c := ⟨k.os.trans h.os, k.tape.trans h.tape, k.output.trans h.output, Nat.le_trans h.size k.size, fun i hi hc => (k.block i (Nat.lt_of_lt_of_le hi h.size) hc).trans (h.block i hi hc)⟩
theorem OnC.alloc (C : Nat → Prop) (w : World) (o : Obj) : OnC C w (w.alloc o) := .of_frm (G := fun _ => False) ((Frm.refl _ w).alloc o) fun _ _ h => h
theorem putObj_frm (w : World) (l : Nat) (o : Obj) : Frm (fun k => k = l) w (w.putObj l o) := (Frm.refl _ w).grown (grownBy_putObj' w l o) fun k e => by cases e; exact .inl rfl
def Own1 (C : Nat → Prop) (w : World) (C' : Nat → Prop) (w' : World) : Prop := Frm C w w' ∧ ∀ k, C' k → C k ∨ w.heap.size ≤ k
def RoundOk (P : Program) (l : Nat) (args : Array Value) (C : Nat → Prop) (W : World) (Jt Jf : (Nat → Prop) → World → Prop) : Prop :=
 YieldAt Fence.wide 0 P l args W fun e W' => ∃ C', Own1 C W C' W' ∧ ((e = .returned (.bool true) ∧ Jt C' W') ∨ (e = .returned (.bool false) ∧ Jf C' W'))
def IterOk {α : Type} (P : Program) (gf : Nat) (lb : Array Value) (encs : α → Array Value) (G : Nat → Prop) (V : World → Prop) (Ys : List α) (W0 : World) : Prop :=
 ∀ (l : Nat) (J Jx : List α → (Nat → Prop) → World → Prop) (W : World) (C : Nat → Prop), Below W0.heap.size W0 W →
  (∀ s D A B, J s D A → OnC D A B → J s D B) → (∀ s D A B, Jx s D A → OnC D A B → Jx s D B) → (∀ s D A, J s D A → ∀ k, D k → k < A.heap.size) → (∀ s D A, Jx s D A → ∀ k, D k → k < A.heap.size) → (∀ k, C k → ¬ G k) →
  (∀ pre x C1 W1, (pre ++ [x]) <+: Ys → J pre C1 W1 → RoundOk P l (encs x) C1 W1 (J (pre ++ [x])) (Jx (pre ++ [x]))) →
  J [] C W →
  Calls P gf (#[.func (.yield l) #[] #[]] ++ lb) W fun e W' => (∃ v, e = .returned v) ∧ V W' ∧
   ∃ C', Own1 (fun k => C k ∨ G k) W C' W' ∧ (∀ k, C' k → C k ∨ W.heap.size ≤ k) ∧ (J Ys C' W' ∨ ∃ pre, pre <+: Ys ∧ Jx pre C' W')
def rPost {α : Type} (I : List α → (Nat → Prop) → World → Prop) (Ix : Code → List α → (Nat → Prop) → World → Prop) (s : List α) (C : Nat → Prop) (W : World) : Exit → Act → World → Prop
 | .normal, _, W' => ∃ C', Own1 C W C' W' ∧ I s C' W'
 | .ret, _, W' => ∃ C', Own1 C W C' W' ∧ Ix .ret s C' W'
 | .exit id, _, W' => ∃ C', Own1 C W C' W' ∧ Ix (.exit id) s C' W'
 | .goto t, _, W' => ∃ C', Own1 C W C' W' ∧ Ix (.goto t) s C' W'
 | .panic _, _, _ => False
 | .outgrown, _, _ => False
theorem rangeK {α : Type} {P : Program} {g : Operand} {ps : Array Tmp} {assign body : Code} {Q : Exit → Act → World → Prop} {a : Act} {w : World} {gf : Nat} {lb : Array Value}
  (hg : a.eval g = .func (.func gf) #[] lb) (eg : ∀ args w, (callFunc gf args).run P w = .ok (.enter gf args) w)
  {encs : α → Array Value} {G : Nat → Prop} {V : World → Prop} {Ys : List α} (hit : IterOk P gf lb encs G V Ys w) (hVp : ∀ W l o, w.heap.size ≤ l → V W → V (W.putObj l o)) (hGl : ∀ k, G k → k < w.heap.size) (hps : ∀ x, (encs x).size = ps.size)
  (C : Nat → Prop) (hCG : ∀ k, C k → ¬ G k) (I : List α → (Nat → Prop) → World → Prop) (Ix : Code → List α → (Nat → Prop) → World → Prop)
  (hI : ∀ s D A B, I s D A → OnC D A B → I s D B) (hIx : ∀ c s D A B, Ix c s D A → OnC D A B → Ix c s D B) (hlt : ∀ s D A, I s D A → ∀ k, D k → k < A.heap.size) (hltx : ∀ c s D A, Ix c s D A → ∀ k, D k → k < A.heap.size)
  (h0 : I [] C w)
  (hround : ∀ (l : Nat) (pre : List α) (x : α) (C1 : Nat → Prop) (W : World), (pre ++ [x]) <+: Ys → I pre C1 W → (∀ k, C1 k → C k ∨ w.heap.size ≤ k) → w.heap.size ≤ W.heap.size → ¬ C1 l → l < W.heap.size →
   assign.wpIn (Fence.wide.inRound l) 0 P (Exit.then (fun a' Wa => Below W.heap.size W Wa ∧ ∀ Wb, Frm (fun k => k = l) Wa Wb → I pre C1 Wb → body.wpIn (Fence.wide.inRound l) 0 P (rPost I Ix (pre ++ [x]) C1 Wb) a' Wb) (fun _ _ _ => False)) { tmps := (ps.zip (encs x)).foldl (fun t (p, v) => t.setIfInBounds p v) a.tmps, defers := [] } W)
  (hdone : ∀ (D : Nat) (C' : Nat → Prop) (W : World), w.heap.size ≤ D → I Ys C' W → V W → Frm (fun k => C k ∨ G k) w W → (∀ k, C' k → C k ∨ w.heap.size ≤ k) → ¬ C' D → W.heap[D]? = some (.deferred (some [])) → Q .normal { a with defers := { target := .collected D, args := #[] } :: a.defers } W)
  (hstop : ∀ (D : Nat) (c : Code) (pre : List α) (C' : Nat → Prop) (W : World), w.heap.size ≤ D → pre <+: Ys → Ix c pre C' W → V W → Frm (fun k => C k ∨ G k) w W → (∀ k, C' k → C k ∨ w.heap.size ≤ k) → ¬ C' D → W.heap[D]? = some (.deferred (some [])) → c.wpIn Fence.wide 0 P Q { a with defers := { target := .collected D, args := #[] } :: a.defers } W) :
  (Code.rangeFunc g ps assign body).wpIn Fence.wide 0 P Q a w := by
 refine wpIn_rangeFunc ?_;intro fn hfn;obtain ⟨rec, hrec⟩ : ∃ rec : LoopState → Option Code → Loop, rec = fun st pe => { state := st, pending := pe, fn, tmps := a.tmps, params := ps, assign, body, defers := w.heap.size } := ⟨_, rfl⟩
 obtain ⟨W1, hW1⟩ : ∃ W1, (w.alloc (.deferred (some []))).alloc (.loop (rec .ready none)) = W1 := ⟨_, rfl⟩
 obtain ⟨n0, hn0⟩ : ∃ n0, w.heap.size = n0 := ⟨_, rfl⟩
 have hz1 : W1.heap.size = n0 + 2 := by rw [← hW1]; simp; omega
 have hL1 : W1.heap[n0 + 1]? = some (.loop (rec .ready none)) := by
  rw [← hW1, ← hn0]; have := World.alloc_heap_new (w.alloc (.deferred (some []))) (.loop (rec .ready none)); rwa [World.size_alloc] at this
 have hK1 : W1.heap[n0]? = some (.deferred (some [])) := by
  rw [← hW1, ← hn0]; exact (Below.heap_alloc _ _ _ (by simp)).trans (World.alloc_heap_new w _)
 have hO1 : OnC C w W1 := by rw [← hW1]; exact (OnC.alloc C w _).trans (OnC.alloc C _ _)
 have hF1 : Frm (fun _ => False) w W1 := by rw [← hW1]; exact ((Frm.refl _ w).alloc _).alloc _
 have hb1 : Below w.heap.size w W1 := hF1.below (fun _ h => h.elim) (Nat.le_refl _);have hI1 : I [] C W1 := hI _ _ _ _ h0 hO1;have hC0 : ∀ k, C k → k < n0 := fun k hk => by have := hlt _ _ _ h0 k hk; omega
 refine ⟨n0 + 1, [{ target := .collected n0, args := #[] }], W1, { target := .fn (.func gf) lb, args := #[.func (.yield (n0 + 1)) #[] #[]] }, W1, gf,
  #[.func (.yield (n0 + 1)) #[] #[]] ++ lb, W1, ?_, ?_, fun _ _ => trivial, ?_, (fun h => by simp [Fence.wide] at h), ?_⟩
 ·rw [← hW1, hrec, ← hn0]; exact run_enterLoop_outer _ _ _ _ _
 ·simp only [resolve, hg]
  simp [go_sem]
 ·simp [invoke, go_sem, eg]
 ·refine callsIn_wide.2 ?_
  obtain ⟨X, hX⟩ : ∃ X : (Nat → Prop) → Nat → Prop, X = fun D k => D k ∨ k = n0 ∨ k = n0 + 1 := ⟨_, rfl⟩
  have xD : ∀ D k, X D k ↔ D k ∨ k = n0 ∨ k = n0 + 1 := fun D k => by rw [hX]
  obtain ⟨JJ, hJJ⟩ : ∃ JJ : List α → (Nat → Prop) → World → Prop, JJ = fun pre XD W => ∃ D, (∀ k, XD k ↔ X D k) ∧ I pre D W ∧ ¬ D n0 ∧ ¬ D (n0 + 1) ∧ W.heap[n0 + 1]? = some (.loop (rec .ready none)) ∧ W.heap[n0]? = some (.deferred (some [])) ∧ (∀ k, D k → C k ∨ n0 ≤ k) ∧ n0 ≤ W.heap.size := ⟨_, rfl⟩
  obtain ⟨JX, hJX⟩ : ∃ JX : List α → (Nat → Prop) → World → Prop, JX = fun pre XD W => ∃ c D, (∀ k, XD k ↔ X D k) ∧ Ix c pre D W ∧ ¬ D n0 ∧ ¬ D (n0 + 1) ∧ W.heap[n0 + 1]? = some (.loop (rec .done (some c))) ∧ W.heap[n0]? = some (.deferred (some [])) ∧ (∀ k, D k → C k ∨ n0 ≤ k) ∧ n0 ≤ W.heap.size := ⟨_, rfl⟩
  have lt_of : ∀ {W : World} {k : Nat} {o : Obj}, W.heap[k]? = some o → k < W.heap.size := fun h => (Array.getElem?_eq_some_iff.1 h).1
  refine (hit (n0 + 1) JJ JX W1 (X C) hb1 ?_ ?_ ?_ ?_ ?_ ?_ ?_).mono ?_
  ·intro s D A B h ho
   rw [hJJ] at h ⊢;obtain ⟨E, e1, e2, e3, e4, e5, e6, e7, e8⟩ := h;refine ⟨E, e1, hI _ _ _ _ e2 (ho.mono fun k hk => (e1 k).2 ((xD E k).2 (.inl hk))), e3, e4, ?_, ?_, e7, Nat.le_trans e8 ho.size⟩
   ·exact (ho.block _ (lt_of e5) ((e1 _).2 ((xD E _).2 (.inr (.inr rfl))))).trans e5
   ·exact (ho.block _ (lt_of e6) ((e1 _).2 ((xD E _).2 (.inr (.inl rfl))))).trans e6
  ·intro s D A B h ho
   rw [hJX] at h ⊢;obtain ⟨c, E, e1, e2, e3, e4, e5, e6, e7, e8⟩ := h;refine ⟨c, E, e1, hIx _ _ _ _ _ e2 (ho.mono fun k hk => (e1 k).2 ((xD E k).2 (.inl hk))), e3, e4, ?_, ?_, e7, Nat.le_trans e8 ho.size⟩
   ·exact (ho.block _ (lt_of e5) ((e1 _).2 ((xD E _).2 (.inr (.inr rfl))))).trans e5
   ·exact (ho.block _ (lt_of e6) ((e1 _).2 ((xD E _).2 (.inr (.inl rfl))))).trans e6
  ·intro s D A h k hk
   rw [hJJ] at h;obtain ⟨E, e1, e2, e3, e4, e5, e6, e7, e8⟩ := h
   rcases (xD E k).1 ((e1 k).1 hk) with h1 | rfl | rfl
   ·exact hlt _ _ _ e2 k h1
   ·exact lt_of e6
   ·exact lt_of e5
  ·intro s D A h k hk
   rw [hJX] at h;obtain ⟨c, E, e1, e2, e3, e4, e5, e6, e7, e8⟩ := h
   rcases (xD E k).1 ((e1 k).1 hk) with h1 | rfl | rfl
   ·exact hltx _ _ _ _ e2 k h1
   ·exact lt_of e6
   ·exact lt_of e5
  ·intro k hk hGk
   rcases (xD C k).1 hk with h1 | rfl | rfl
   ·exact hCG k h1 hGk
   ·have := hGl _ hGk; omega
   ·have := hGl _ hGk; omega
  ·intro pre x CX W hpre hj
   rw [hJJ] at hj;obtain ⟨E, e1, e2, e3, e4, e5, e6, e7, e8⟩ := hj;have hlt5 := lt_of e5;have hy := run_yield (P := P) (args := encs x) e5 (by rw [hrec]; exact hps x);rw [hrec] at hy;refine ⟨fn, _, assign, body, hy, roundIn_of_wpIn hfn ?_⟩;refine wpIn_mono (hround (n0 + 1) pre x E W hpre e2 (fun k hk => by have := e7 k hk; rw [hn0]; exact this) (by omega) e4 hlt5) ?_;rintro e0 a' Wa hp0
   cases e0 with
   | normal =>
    obtain ⟨hba, hbody⟩ := hp0;have e5a := (hba.block _ hlt5).trans e5;have e6a := (hba.block _ (lt_of e6)).trans e6;have fba : Frm (fun _ => False) W Wa := Frm.of_below hba;refine ⟨_, run_beginRound e5a (by rw [hrec]), ?_⟩;obtain ⟨Wb, hWb⟩ : ∃ Wb, Wa.putObj (n0 + 1) (.loop { rec .ready none with state := .busy }) = Wb := ⟨_, rfl⟩
    rw [hWb];have fab : Frm (fun k => k = n0 + 1) Wa Wb := by rw [← hWb]; exact putObj_frm _ _ _
    have fb : Frm (fun k => k = n0 + 1) W Wb := (fba.mono fun _ h => h.elim).trans fab fun k hk => .inl hk
    have hl2 : Wb.heap[n0 + 1]? = some (.loop { rec .ready none with state := .busy }) := by rw [← hWb]; exact World.putObj_heap_same (lt_of e5a)
    have hk2 : Wb.heap[n0]? = some (.deferred (some [])) := (fb.block _ (lt_of e6) (by omega)).trans e6;have hIb : I pre E Wb := hI _ _ _ _ e2 (.of_frm fb fun k hk e => e4 (e ▸ hk));refine wpIn_mono (hbody Wb fab hIb) ?_
    have fin : ∀ (jump : Option Code) (E' : Nat → Prop) (W3 : World), Own1 E Wb E' W3 → (∀ k, E' k → k < W3.heap.size) →
      ∃ W4, (Instr.endRound (n0 + 1) jump).run P W3 = .ok (.bool jump.isNone) W4 ∧ Frm (fun k => k = n0 + 1) W3 W4 ∧ W4.heap[n0 + 1]? = some (.loop (rec (if jump.isNone then .ready else .done) jump)) ∧
      W4.heap[n0]? = some (.deferred (some [])) ∧ ¬ E' n0 ∧ ¬ E' (n0 + 1) ∧ (∀ k, E' k → C k ∨ n0 ≤ k) ∧ n0 ≤ W4.heap.size ∧ Own1 CX W (X E') W4 := fun jump E' W3 ho hl3' => by
     have hl3 := (ho.1.block _ (lt_of hl2) e4).trans hl2;have hk3 := (ho.1.block _ (lt_of hk2) e3).trans hk2;have hr := run_endRound (P := P) jump hl3;have s1 := fb.size;have s2 := ho.1.size;have n3 : ¬ E' n0 := fun hx => (ho.2 _ hx).elim e3 (fun hy => by omega)
     have n4 : ¬ E' (n0 + 1) := fun hx => (ho.2 _ hx).elim e4 (fun hy => by omega)
     rw [hrec] at hr ⊢;refine ⟨_, hr, putObj_frm _ _ _, World.putObj_heap_same (lt_of hl3), (World.putObj_heap_other (by omega)).trans hk3, n3, n4, fun k hk => (ho.2 k hk).elim (e7 k) (fun hy => .inr (by omega)), ?_, ?_, ?_⟩
     ·exact Nat.le_trans (show n0 ≤ W3.heap.size by omega) (putObj_frm W3 (n0 + 1) _).size
     ·refine ((fb.mono fun k hk => (e1 k).2 ((xD E k).2 (.inr (.inr hk)))).trans ho.1 fun k hk => .inl ((e1 k).2 ((xD E k).2 (.inl hk)))).trans (putObj_frm _ _ _) fun k hk => .inl ((e1 k).2 ((xD E k).2 (.inr (.inr hk))))
     ·intro k hk
      rcases (xD E' k).1 hk with h1 | h1 | h1
      ·rcases ho.2 k h1 with h2 | h2
       ·exact .inl ((e1 k).2 ((xD E k).2 (.inl h2)))
       ·exact .inr (by omega)
      ·exact .inl ((e1 k).2 ((xD E k).2 (.inr (.inl h1))))
      ·exact .inl ((e1 k).2 ((xD E k).2 (.inr (.inr h1))))
    rintro e a3 W3 hp
    cases e with
    | normal =>
     obtain ⟨E', ho, hi⟩ := hp;obtain ⟨W4, f1, f2, f3, f4, f5, f6, f7, f8, f9⟩ := fin none E' W3 ho (hlt _ _ _ hi);refine ⟨_, W4, f1, X E', f9, .inl ⟨rfl, ?_⟩⟩;rw [hJJ];exact ⟨E', fun _ => Iff.rfl, hI _ _ _ _ hi (.of_frm f2 fun k hk e => f6 (e ▸ hk)), f5, f6, f3, f4, f7, f8⟩
    | ret =>
     obtain ⟨E', ho, hi⟩ := hp;obtain ⟨W4, f1, f2, f3, f4, f5, f6, f7, f8, f9⟩ := fin (some .ret) E' W3 ho (hltx _ _ _ _ hi);refine ⟨_, W4, f1, X E', f9, .inr ⟨rfl, ?_⟩⟩;rw [hJX];exact ⟨.ret, E', fun _ => Iff.rfl, hIx _ _ _ _ _ hi (.of_frm f2 fun k hk e => f6 (e ▸ hk)), f5, f6, f3, f4, f7, f8⟩
    | exit id =>
     obtain ⟨E', ho, hi⟩ := hp;obtain ⟨W4, f1, f2, f3, f4, f5, f6, f7, f8, f9⟩ := fin (some (.exit id)) E' W3 ho (hltx _ _ _ _ hi);refine ⟨_, W4, f1, X E', f9, .inr ⟨rfl, ?_⟩⟩;rw [hJX];exact ⟨.exit id, E', fun _ => Iff.rfl, hIx _ _ _ _ _ hi (.of_frm f2 fun k hk e => f6 (e ▸ hk)), f5, f6, f3, f4, f7, f8⟩
    | goto t =>
     obtain ⟨E', ho, hi⟩ := hp;obtain ⟨W4, f1, f2, f3, f4, f5, f6, f7, f8, f9⟩ := fin (some (.goto t)) E' W3 ho (hltx _ _ _ _ hi);refine ⟨_, W4, f1, X E', f9, .inr ⟨rfl, ?_⟩⟩;rw [hJX];exact ⟨.goto t, E', fun _ => Iff.rfl, hIx _ _ _ _ _ hi (.of_frm f2 fun k hk e => f6 (e ▸ hk)), f5, f6, f3, f4, f7, f8⟩
    | panic ch => exact hp.elim
    | outgrown => exact hp.elim
   | exit id => exact hp0.elim
   | goto t => exact hp0.elim
   | ret => exact hp0.elim
   | panic ch => exact hp0.elim
   | outgrown => exact hp0.elim
  ·rw [hJJ]
   refine ⟨C, fun _ => Iff.rfl, hI1, fun h => ?_, fun h => ?_, hL1, hK1, fun k hk => .inl hk, by omega⟩
   ·have := hC0 _ h; omega
   ·have := hC0 _ h; omega
  ·rintro e W2 ⟨⟨v, rfl⟩, hV, C', ho, hCn, hend⟩
   have fr : ∀ o, Frm (fun k => C k ∨ G k) w (W2.putObj (n0 + 1) o) := fun o => by
    refine ((hF1.mono (G := fun k => C k ∨ G k) fun _ h => h.elim).trans ho.1 fun k hk => ?_).trans (putObj_frm _ _ _) fun k hk => .inr (by omega)
    rcases hk with hk | hk
    ·rcases (xD C k).1 hk with h1 | h1 | h1
     ·exact .inl (.inl h1)
     ·exact .inr (by omega)
     ·exact .inr (by omega)
    ·exact .inl (.inr hk)
   rcases hend with hj | ⟨pre, hpre, hj⟩
   ·rw [hJJ] at hj
    obtain ⟨E, e1, e2, e3, e4, e5, e6, e7, e8⟩ := hj;refine ⟨none, _, by have := run_endLoop (P := P) e5 (by rw [hrec]; simp); rw [hrec] at this; exact this, ?_⟩;exact hdone n0 E _ (by omega) (hI _ _ _ _ e2 (.of_frm (putObj_frm _ _ _) fun k hk e => e4 (e ▸ hk))) (hVp _ _ _ (by omega) hV) (fr _) (fun k hk => by have := e7 k hk; rw [hn0]; exact this) e3 ((World.putObj_heap_other (by omega)).trans e6)
   ·rw [hJX] at hj
    obtain ⟨c, E, e1, e2, e3, e4, e5, e6, e7, e8⟩ := hj;refine ⟨some c, _, by have := run_endLoop (P := P) e5 (by rw [hrec]; simp); rw [hrec] at this; exact this, ?_⟩;exact hstop n0 c pre E _ (by omega) hpre (hIx _ _ _ _ _ e2 (.of_frm (putObj_frm _ _ _) fun k hk e => e4 (e ▸ hk))) (hVp _ _ _ (by omega) hV) (fr _) (fun k hk => by have := e7 k hk; rw [hn0]; exact this) e3 ((World.putObj_heap_other (by omega)).trans e6)
def mkD (D : Nat) : Deferred := { target := .collected D, args := #[] }
def Marks (w : World) (Ds : List Nat) : Prop := Ds.Nodup ∧ ∀ D ∈ Ds, w.heap[D]? = some (.deferred (some []))
theorem Marks.nil (w : World) : Marks w [] := ⟨List.nodup_nil, fun D h => by cases h⟩
theorem Marks.lt {w : World} {Ds : List Nat} (h : Marks w Ds) : ∀ D ∈ Ds, D < w.heap.size := fun D hD => (Array.getElem?_eq_some_iff.1 (h.2 D hD)).1
theorem Marks.on {w w' : World} {Ds : List Nat} (h : Marks w Ds) (ho : ∀ D ∈ Ds, w'.heap[D]? = w.heap[D]?) : Marks w' Ds := ⟨h.1, fun D hD => (ho D hD).trans (h.2 D hD)⟩
theorem Marks.cons {w : World} {Ds : List Nat} {D : Nat} (h : Marks w Ds) (hn : D ∉ Ds) (hD : w.heap[D]? = some (.deferred (some []))) : Marks w (D :: Ds) :=
 ⟨List.nodup_cons.2 ⟨hn, h.1⟩, fun x hx => (List.mem_cons.1 hx).elim (fun e => e ▸ hD) (h.2 x)⟩
theorem leavesM {P : Program} {fn : Func} {tmps : Array Value} {R : Ending → World → Prop} : ∀ (Ds : List Nat) (w : World), Marks w Ds →
  (∀ w', Frm (fun k => k ∈ Ds) w w' → ∃ v, (results fn tmps).run P w' = .ok v w' ∧ R (.returned v) w') → LeavesInM Fence.wide 0 P fn tmps R (Ds.map mkD) .returning w := by
 intro Ds
 induction Ds with
 | nil => exact fun w _ h => h w (Frm.refl _ w)
 | cons D Ds ih =>
  intro w hm h;obtain ⟨hn, h2⟩ := hm;obtain ⟨n1, n2⟩ := List.nodup_cons.1 hn;refine ⟨by simp, .inl ⟨D, _, rfl, run_takeDeferred (h2 D (List.mem_cons_self ..)), ?_⟩⟩;have f := putObj_frm w D (.deferred none);refine ih _ ⟨n2, fun x hx => (f.block x ((Array.getElem?_eq_some_iff.1 (h2 x (List.mem_cons_of_mem _ hx))).1) (fun e => n1 (e ▸ hx))).trans (h2 x (List.mem_cons_of_mem _ hx))⟩ fun w' hw => ?_
  exact h w' ((f.mono fun k hk => hk ▸ List.mem_cons_self ..).trans hw fun k hk => .inl (List.mem_cons_of_mem _ hk))
end Go.Proofs.YtmomlhiokggfbaaGreatDoor
namespace Go.Proofs.YtmomlhiokggfbaaGreatDoor
open Go.RowKit
set_option maxRecDepth 20000
set_option maxHeartbeats 12800000
set_option linter.unusedVariables false
set_option linter.unusedSimpArgs false
attribute [local go_sem] Oper.semAt_some
theorem box1 {w : World} {b : Nat} {v : Value} {T : TypeId} (h : w.heap[b]? = some (.cells #[v] T)) : w.cell? ⟨b, 0, none⟩ = some v ∧ w.frozen? ⟨b, 0, none⟩ = false := ⟨cells1 h, ufb h 0⟩
def VP (d s g : Nat) (dk : DkS) (st : ShS) (r : Nat) (F : Nat → Prop) (n : Nat) (W : World) : Prop := ∃ r', r ≤ r' ∧ r' ≤ r + n ∧ TS W d s g dk st r' F
structure Under (W0 : World) (C0 G H : Nat → Prop) (w1 : World) (C : Nat → Prop) (w : World) : Prop where
 fr : Frm (fun k => C0 k ∨ G k) W0 w
 cn : ∀ k, C k → C0 k ∨ W0.heap.size ≤ k
 cg : ∀ k, C k → ¬ G k
 ch : ∀ k, C k → ¬ H k
 hk : ∀ k, H k → k < w1.heap.size ∧ w.heap[k]? = w1.heap[k]?
 sz : w1.heap.size ≤ w.heap.size
 gl : ∀ k, G k → k < W0.heap.size
 zz : W0.heap.size ≤ w1.heap.size
theorem Under.step {W0 w1 w w' : World} {C0 G H C : Nat → Prop} (h : Under W0 C0 G H w1 C w) {D : Nat → Prop} (hf : Frm D w w') (hD : ∀ k, D k → (G k ∨ W0.heap.size ≤ k) ∧ ¬ H k) : Under W0 C0 G H w1 C w' :=
 ⟨h.fr.trans hf fun k hk => (hD k hk).1.imp .inr id, h.cn, h.cg, h.ch, fun k hk => ⟨(h.hk k hk).1, (hf.block k (Nat.lt_of_lt_of_le (h.hk k hk).1 h.sz) (fun e => (hD k e).2 hk)).trans (h.hk k hk).2⟩, Nat.le_trans h.sz hf.size, h.gl, h.zz⟩
theorem Under.round {W0 w1 w w' : World} {C0 G H C C' : Nat → Prop} (h : Under W0 C0 G H w1 C w) (ho : Own1 C w C' w') : Under W0 C0 G H w1 C' w' := by
 have hs := h.sz;have hz := h.zz;refine ⟨h.fr.trans ho.1 fun k hk => (h.cn k hk).imp .inl id, fun k hk => ?_, fun k hk hg => ?_, fun k hk hH => ?_, fun k hk => ⟨(h.hk k hk).1, (ho.1.block k (Nat.lt_of_lt_of_le (h.hk k hk).1 hs) (fun e => h.ch k e hk)).trans (h.hk k hk).2⟩, Nat.le_trans hs ho.1.size, h.gl, h.zz⟩
 ·rcases ho.2 k hk with h1 | h1
  ·exact h.cn k h1
  ·exact .inr (by omega)
 ·rcases ho.2 k hk with h1 | h1
  ·exact h.cg k h1 hg
  ·have := h.gl k hg; omega
 ·rcases ho.2 k hk with h1 | h1
  ·exact h.ch k h1 hH
  ·have := (h.hk k hH).1; omega
theorem Under.after {W0 w1 w w6 w' : World} {C0 G H C C' GK : Nat → Prop} {y : Nat} (h : Under W0 C0 G H w1 C w) (h6 : Below w.heap.size w w6) (hf : Frm (fun k => (C k ∨ k = y) ∨ GK k) w6 w') (hK : ∀ k, GK k → (G k ∨ w.heap.size ≤ k) ∧ ¬ H k) (hy : w'.heap[y]? = w1.heap[y]?) (yW : W0.heap.size ≤ y) (hC : ∀ k, C' k → C k ∨ w.heap.size ≤ k) : Under W0 C0 G H w1 C' w' := by
 have hs := h.sz;have hz := h.zz;have h6s := h6.size;refine ⟨(h.fr.trans (G := fun _ => False) (Frm.of_below h6) fun _ h => h.elim).trans hf fun k hk => ?_, fun k hk => ?_, fun k hk hg => ?_, fun k hk hH => ?_, fun k hk => ⟨(h.hk k hk).1, ?_⟩, Nat.le_trans (Nat.le_trans hs h6s) hf.size, h.gl, h.zz⟩
 ·rcases hk with (hk | rfl) | hk
  ·exact (h.cn k hk).imp .inl id
  ·exact .inr yW
  ·rcases (hK k hk).1 with h1 | h1
   ·exact .inl (.inr h1)
   ·exact .inr (by omega)
 ·rcases hC k hk with h1 | h1
  ·exact h.cn k h1
  ·exact .inr (by omega)
 ·rcases hC k hk with h1 | h1
  ·exact h.cg k h1 hg
  ·have := h.gl k hg; omega
 ·rcases hC k hk with h1 | h1
  ·exact h.ch k h1 hH
  ·have := (h.hk k hH).1; omega
 ·by_cases e : k = y
  ·rw [e]; exact hy
  ·have hl := (h.hk k hk).1
   rw [hf.block k (by omega) (fun hx => by
    rcases hx with (hx | hx) | hx
    ·exact h.ch k hx hk
    ·exact e hx
    ·exact (hK k hx).2 hk), h6.block k (by omega)]
   exact (h.hk k hk).2
theorem TS.round {w w' : World} {d s g : Nat} {dk : DkS} {st : ShS} {r : Nat} {F C C' : Nat → Prop} (h : TS w d s g dk st r F) (ho : Own1 C w C' w') (hd : ∀ k, C k → ¬ F k) : TS w' d s g dk st r F := h.frm ho.1 fun k hk e => hd k e hk
theorem cell_as {w w' : World} {g i : Nat} (h : w'.heap[g]? = w.heap[g]?) : w'.cell? ⟨g, i, none⟩ = w.cell? ⟨g, i, none⟩ := by
 unfold World.cell?;rw [show (⟨g, i, none⟩ : Addr).block = g from rfl, h]
def IA {α : Type} (J : List α → (Nat → Prop) → World → Prop) (pre0 : List α) (y : Nat) (o : Obj) (pre : List α) (D : Nat → Prop) (W : World) : Prop := ∃ C2 : Nat → Prop, (∀ k, D k ↔ C2 k ∨ k = y) ∧ J (pre0 ++ pre) C2 W ∧ W.heap[y]? = some o ∧ ¬ C2 y
theorem IA.on {α : Type} {J : List α → (Nat → Prop) → World → Prop} (hJ : ∀ s D A B, J s D A → OnC D A B → J s D B) {pre0 : List α} {y : Nat} {o : Obj} (s : List α) (D : Nat → Prop) (A B : World) (h : IA J pre0 y o s D A) (ho : OnC D A B) : IA J pre0 y o s D B := by
 obtain ⟨C2, h1, h2, h3, h4⟩ := h;exact ⟨C2, h1, hJ _ _ _ _ h2 (ho.mono fun k hk => (h1 k).2 (.inl hk)), (ho.block y (Array.getElem?_eq_some_iff.1 h3).1 ((h1 y).2 (.inr rfl))).trans h3, h4⟩
theorem IA.lt {α : Type} {J : List α → (Nat → Prop) → World → Prop} (hl : ∀ s D A, J s D A → ∀ k, D k → k < A.heap.size) {pre0 : List α} {y : Nat} {o : Obj} (s : List α) (D : Nat → Prop) (A : World) (h : IA J pre0 y o s D A) (k : Nat) (hk : D k) : k < A.heap.size := by
 obtain ⟨C2, h1, h2, h3, h4⟩ := h
 rcases (h1 k).1 hk with h5 | rfl
 ·exact hl _ _ _ h2 k h5
 ·exact (Array.getElem?_eq_some_iff.1 h3).1
theorem IA.next {α : Type} {J' : List α → (Nat → Prop) → World → Prop} {pre0 pre : List α} {y : Nat} {o : Obj} {D C2 C3 : Nat → Prop} {w w' : World} {x : α} (h1 : ∀ k, D k ↔ C2 k ∨ k = y) (hy : w.heap[y]? = some o) (hn : ¬ C2 y) (ho : Own1 C2 w C3 w') (hj : J' (pre0 ++ pre ++ [x]) C3 w') : ∃ D', Own1 D w D' w' ∧ IA J' pre0 y o (pre ++ [x]) D' w' := by
 have hyl := (Array.getElem?_eq_some_iff.1 hy).1;refine ⟨fun k => C3 k ∨ k = y, ⟨ho.1.mono fun k hk => (h1 k).2 (.inl hk), fun k hk => ?_⟩, C3, fun _ => Iff.rfl, by rw [← List.append_assoc]; exact hj, (ho.1.block y hyl hn).trans hy, fun h => ?_⟩
 ·rcases hk with hk | rfl
  ·exact (ho.2 k hk).imp (fun h => (h1 k).2 (.inl h)) id
  ·exact .inl ((h1 _).2 (.inr rfl))
 ·rcases ho.2 y h with h | h
  ·exact hn h
  ·omega
theorem kPs_at {Q : List Kid} {m : Nat} {q : Kid} (h : Q[m]? = some q) : kPs Q = kPs (Q.take m) ++ (q.P ++ kPs (Q.drop (m + 1))) ∧ kPs (Q.take (m + 1)) = kPs (Q.take m) ++ q.P := by
 obtain ⟨hm, rfl⟩ := List.getElem?_eq_some_iff.1 h;constructor
 ·conv => lhs; rw [← List.take_append_drop m Q, kPs_append, List.drop_eq_getElem_cons hm, kPs_cons]
 ·rw [List.take_succ_eq_append_getElem hm, kPs_append]
  simp [kPs]
theorem endB {α : Type} {P : Program} {fn : Func} {tmps : Array Value} (hres : fn.results = #[]) {W w w1 : World} {C C' G H F : Nat → Prop} {d s g : Nat} {dk : DkS} {st : ShS} {r r' n : Nat} {J Jx : List α → (Nat → Prop) → World → Prop} {Ys : List α} (hGF : ∀ k, F k → G k)
  (hJ : ∀ s D A B, J s D A → OnC D A B → J s D B) (hJx : ∀ s D A B, Jx s D A → OnC D A B → Jx s D B) (hU : Under W C G H w1 C' w) (hT : TS w d s g dk st r' F) (h1 : r ≤ r') (h2 : r' ≤ r + n) (Ds : List Nat) (hm : Marks w Ds) (hD : ∀ D ∈ Ds, W.heap.size ≤ D ∧ ¬ C' D) (hJJ : J Ys C' w ∨ ∃ pre, pre <+: Ys ∧ Jx pre C' w) {z : Nat} (hz : W.heap.size = z) :
  LeavesInM Fence.wide 0 P fn tmps (fun e W' => (∃ v, e = .returned v) ∧ VP d s g dk st r F n W' ∧ ∃ C', Own1 (fun k => C k ∨ G k) W C' W' ∧ (∀ k, C' k → C k ∨ z ≤ k) ∧ (J Ys C' W' ∨ ∃ pre, pre <+: Ys ∧ Jx pre C' W')) (Ds.map mkD) .returning w := by
 subst hz;refine leavesM Ds w hm fun w' hf => ⟨_, results_none hres _ _ _, ⟨_, rfl⟩, ⟨r', h1, h2, hT.frm hf fun k hk hd => ?_⟩, C', ⟨hU.fr.trans hf fun k hk => .inr (hD k hk).1, fun k hk => (hU.cn k hk).imp .inl id⟩, hU.cn, ?_⟩
 ·have := (hD k hd).1
  have := hU.gl k (hGF k hk);omega
 ·have ho : OnC C' w w' := .of_frm hf fun k hk hd => (hD k hd).2 hk
  rcases hJJ with h | ⟨pre, hp, h⟩
  ·exact .inl (hJ _ _ _ _ h ho)
  ·exact .inr ⟨pre, hp, hJx _ _ _ _ h ho⟩
def txC (s : Nat) (root e : Int) (o : Bool) : Obj := .cells #[.pointer (some ⟨s, 0, none⟩), .int .i64 root, .int .i64 e, .bool o] 123
theorem cellsT {w : World} {t s : Nat} {root e : Int} {o : Bool} (h : w.heap[t]? = some (txC s root e o)) : w.cell? ⟨t, 0, none⟩ = some (.pointer (some ⟨s, 0, none⟩)) ∧ w.cell? ⟨t, 1, none⟩ = some (.int .i64 root) ∧ w.cell? ⟨t, 2, none⟩ = some (.int .i64 e) ∧ w.cell? ⟨t, 3, none⟩ = some (.bool o) ∧ ∀ i, w.frozen? ⟨t, i, none⟩ = false := by
 unfold txC at h;refine ⟨?_, ?_, ?_, ?_, fun i => ufb h i⟩ <;> (rw [Go.Joins.cell_of_block h]; rfl)
theorem set_frmT {w : World} {b i : Nat} (v : Value) : Frm (fun k => k = b) w (w.setCell ⟨b, i, none⟩ v) := (Frm.refl _ w).setCell _ _ (.inl rfl)
theorem do_put (w : World) (t s : Nat) (root : Int) (caps : Array Value) (hc : w.heap[t]? = some (txC s root 0 false)) (R : Int → World → Prop)
  (HC : Calls Tryz.prog 63 caps w fun e w' => ∃ c, e = .returned (.int .i64 c) ∧ R c w' ∧ ∃ root', w'.heap[t]? = some (txC s root' 0 false)) :
  Calls Tryz.prog 62 #[.pointer (some ⟨t, 0, none⟩), .func (.func 63) #[] caps] w fun e w' => ∃ c w1, e = .returned (.bool (c == 0)) ∧ R c w1 ∧ w1.setCell ⟨t, 2, none⟩ (.int .i64 c) = w' := by
 have H := Hd HC;obtain ⟨c0, c1, c2, c3, fz⟩ := cellsT hc;clear hc HC fz;go_enter Tryz.func62, Tryz.ntmps62;go_wp2_with fail;refine H.out.mono ?_;rintro e w1 ⟨c, rfl, hR, root', hc1⟩;have FIN := Hd hR;obtain ⟨d0, d1, d2, d3, g⟩ := cellsT hc1;have g2 := g 2;obtain ⟨w2, hw2⟩ : ∃ w2, w1.setCell ⟨t, 2, none⟩ (.int .i64 c) = w2 := ⟨_, rfl⟩
 have e2 : w2.cell? ⟨t, 2, none⟩ = some (.int .i64 c) := by
  unfold txC at hc1;have h9 := heap_setCell_same w1 t 2 _ _ (.int .i64 c) hc1;rw [hw2] at h9;rw [Go.Joins.cell_of_block h9]; rfl
 have HW := Hd hw2;clear hR hc1 g c0 c1 c2 c3 H;go_upto_region 4 with fail
 try rw [hw2]
 clear hw2 d0 d1 d2 d3 g2;go_wp2_with fail;go_ret;exact ⟨c, w1, rfl, FIN.out, HW.out⟩
theorem do_get (w : World) (t s : Nat) (root : Int) (caps : Array Value) (hc : w.heap[t]? = some (txC s root 0 false)) (R : Int → World → Prop)
  (HC : Calls Tryz.prog 68 caps w fun e w' => ∃ c, e = .returned (.int .i64 c) ∧ R c w' ∧ ∃ root', w'.heap[t]? = some (txC s root' 0 false)) :
  Calls Tryz.prog 62 #[.pointer (some ⟨t, 0, none⟩), .func (.func 68) #[] caps] w fun e w' => ∃ c w1, e = .returned (.bool (c == 0)) ∧ R c w1 ∧ w1.setCell ⟨t, 2, none⟩ (.int .i64 c) = w' := by
 have H := Hd HC;obtain ⟨c0, c1, c2, c3, fz⟩ := cellsT hc;clear hc HC fz;go_enter Tryz.func62, Tryz.ntmps62;go_wp2_with fail;refine H.out.mono ?_;rintro e w1 ⟨c, rfl, hR, root', hc1⟩;have FIN := Hd hR;obtain ⟨d0, d1, d2, d3, g⟩ := cellsT hc1;have g2 := g 2;obtain ⟨w2, hw2⟩ : ∃ w2, w1.setCell ⟨t, 2, none⟩ (.int .i64 c) = w2 := ⟨_, rfl⟩
 have e2 : w2.cell? ⟨t, 2, none⟩ = some (.int .i64 c) := by
  unfold txC at hc1;have h9 := heap_setCell_same w1 t 2 _ _ (.int .i64 c) hc1;rw [hw2] at h9;rw [Go.Joins.cell_of_block h9]; rfl
 have HW := Hd hw2;clear hR hc1 g c0 c1 c2 c3 H;go_upto_region 4 with fail
 try rw [hw2]
 clear hw2 d0 d1 d2 d3 g2;go_wp2_with fail;go_ret;exact ⟨c, w1, rfl, FIN.out, HW.out⟩
def PutS (bt bk bv t s : Nat) (root key : Int) (val : ByteArray) (w : World) : Prop := w.heap[bt]? = some (.cells #[.pointer (some ⟨t, 0, none⟩)] 67) ∧ w.heap[bk]? = some (.cells #[.int .u64 key] 28) ∧ w.heap[bv]? = some (.cells #[.string val] 9) ∧ w.heap[t]? = some (txC s root 0 false)
theorem PutS.kept {bt bk bv t s : Nat} {root key : Int} {val : ByteArray} {w w' : World} {R : List Nat} (h : PutS bt bk bv t s root key val w) (hm : bt ∈ R ∧ bk ∈ R ∧ bv ∈ R ∧ t ∈ R) (hK : KeptL R w w') : PutS bt bk bv t s root key val w' :=
 ⟨(hK _ hm.1).trans h.1, (hK _ hm.2.1).trans h.2.1, (hK _ hm.2.2.1).trans h.2.2.1, (hK _ hm.2.2.2).trans h.2.2.2⟩
theorem put1_is {w0 w : World} {R : List Nat} {t d s n bt bk bv br : Nat} {root key : Int} {val : ByteArray} {E : List Ent} (h : TrR w0 R w d s n root E) (ps : PutS bt bk bv t s root key val w) (hm : bt ∈ R ∧ bk ∈ R ∧ bv ∈ R ∧ t ∈ R) (ht0 : w0.heap.size ≤ t)
  (H0 : Nat) (h9 : H0 ≤ 8) (hE : E.length < 2 ^ (H0 + 1)) (hn : 2 * E.length + 2 * H0 + 5 ≤ n) (hk : 0 ≤ key ∧ key ≤ 18446744073709551615) (hv : val.size ≤ 40) :
  Calls Tryz.prog 63 #[.pointer (some ⟨bt, 0, none⟩), .pointer (some ⟨bk, 0, none⟩), .pointer (some ⟨bv, 0, none⟩), .pointer (some ⟨br, 0, none⟩)] w fun e w' => e = .returned (.int .i64 0) ∧ ∃ q, TrR w0 R w' d s n q (insE key val E) ∧ w'.heap[t]? = some (txC s q 0 false) ∧ ∀ k ∈ R, k ≠ t → w'.heap[k]? = w.heap[k]? := by
 have PS := Hd (show PutS bt bk bv t s root key val w.drew from ps);have PT := Hd (put_R (h.below Br.drew) H0 h9 hE hn key hk val hv);have HM := Hd hm;have HT0 := Hd ht0;clear h ps h9 hE hn hk hv ht0;go_enter Tryz.func63, Tryz.ntmps63;go_upto_region 1 with fail
 refine wp_region_held_drew (S := fun w' => PutS bt bk bv t s root key val w') (by kernel_rfl) PS.out (fun hS => ?_);refine Hv 0 8 ?va0x1 hS ?ha0x1 ?_
 case ha0x1 =>
  intro w9 s9;have k9 := (box1 s9.1).1;clear s9;go_simp;try (with_reducible rfl)
 simp only [SL];refine Hu 1 9 hS ?_;simp only [SL];refine Hu 2 10 hS ?_;simp only [SL];refine Hv 3 11 ?va3x4 hS ?ha3x4 ?_
 case ha3x4 =>
  intro w9 s9;obtain ⟨k0, k1, _, _, _⟩ := cellsT s9.2.2.2;clear s9;go_simp;try (with_reducible rfl)
 simp only [SL];refine Hv 4 12 ?va4x5 hS ?ha4x5 ?_
 case ha4x5 =>
  intro w9 s9;have k9 := (box1 s9.1).1;clear s9;go_simp;try (with_reducible rfl)
 simp only [SL];refine Hu 5 13 hS ?_;simp only [SL];refine Hu 6 14 hS ?_;simp only [SL];refine Hv 7 15 ?va7x8 hS ?ha7x8 ?_
 case ha7x8 =>
  intro w9 s9;obtain ⟨k0, k1, _, _, _⟩ := cellsT s9.2.2.2;clear s9;go_simp;try (with_reducible rfl)
 simp only [SL];refine Hv 8 16 ?va8x9 hS ?ha8x9 ?_
 case ha8x9 =>
  intro w9 s9;have k9 := (box1 s9.2.1).1;clear s9;go_simp;try (with_reducible rfl)
 simp only [SL];refine Hv 9 17 ?va9x10 hS ?ha9x10 ?_
 case ha9x10 =>
  intro w9 s9;have k9 := (box1 s9.2.2.1).1;clear s9;go_simp;try (with_reducible rfl)
 simp only [SL];refine Hs 10 (fun K HK => ?_);go_simp;go_wp2_with fail;refine PT.out.mono ?_;rintro e w6 ⟨q, rfl, hT, hK⟩;refine HK.out _ _ ?_ ?_
 ·exact hS.kept hm hK
 clear HK K;try simp only [Act.put, SL]
 have hS' := hS.kept hm hK;clear hS;have hS := hS';clear hS';refine Hu 11 7 hS ?_;simp only [SL];refine Hu 12 19 hS ?_;simp only [SL];refine Hu 13 20 hS ?_;simp only [SL];refine Hu 14 5 hS ?_;simp only [SL];refine Hu 15 6 hS ?_;simp only [SL];refine wpAnyH_done (by kernel_rfl) ?_ _;have bx := (box1 hS.1).1;obtain ⟨d0, d1, d2, d3, g⟩ := cellsT hS.2.2.2;have g1 := g 1;obtain ⟨w7, hw7⟩ : ∃ w7, w6.setCell ⟨t, 1, none⟩ (.int .i64 q) = w7 := ⟨_, rfl⟩
 have FIN : Hid (∃ q, TrR w0 R w7 d s n q (insE key val E) ∧ w7.heap[t]? = some (txC s q 0 false) ∧ ∀ k ∈ R, k ≠ t → w7.heap[k]? = w.heap[k]?) := Hd (by
  have f : Frm (fun k => k = t) w6 w7 := by rw [← hw7]; exact set_frmT _
  refine ⟨q, hT.turn HM.out.2.2.2 HT0.out f, ?_, fun k hk hne => (f.block k (hT.lt k hk) hne).trans (hK k hk)⟩;have h1 := hS.2.2.2;unfold txC at h1;rw [← hw7, heap_setCell_same _ _ 1 _ _ _ h1]
  rfl)
 clear hS hT hK g hm;go_upto_region 8 with fail
 try rw [hw7]
 clear hw7 bx d0 d1 d2 d3 g1;go_wp2_with fail;go_ret;exact ⟨rfl, FIN.out⟩
theorem boxes4 {w0 w : World} {R : List Nat} {t d s n : Nat} {root key : Int} {val : ByteArray} {E : List Ent} (h : TrR w0 (t :: R) w d s n root E) (ht : w.heap[t]? = some (txC s root 0 false)) (x4 : World)
  (hx : (((w.alloc (.cells #[.pointer (some ⟨t, 0, none⟩)] 67)).alloc (.cells #[.int .u64 key] 28)).alloc (.cells #[.string val] 9)).alloc (.cells #[.bool false] 4) = x4) :
  TrR w0 ((w.heap.size + 3) :: (w.heap.size + 2) :: (w.heap.size + 1) :: w.heap.size :: t :: R) x4 d s n root E ∧ PutS w.heap.size (w.heap.size + 1) (w.heap.size + 2) t s root key val x4 ∧ x4.heap[w.heap.size + 3]? = some (.cells #[.bool false] 4) ∧ KeptL (t :: R) w x4 ∧ t < w.heap.size ∧ (∀ k ∈ t :: R, k < w.heap.size) ∧ Below w.heap.size w x4 := by
 obtain ⟨x1, hx1⟩ : ∃ x1, w.alloc (.cells #[.pointer (some ⟨t, 0, none⟩)] 67) = x1 := ⟨_, rfl⟩
 obtain ⟨x2, hx2⟩ : ∃ x2, x1.alloc (.cells #[.int .u64 key] 28) = x2 := ⟨_, rfl⟩
 obtain ⟨x3, hx3⟩ : ∃ x3, x2.alloc (.cells #[.string val] 9) = x3 := ⟨_, rfl⟩
 rw [hx1, hx2, hx3] at hx;have z1 : x1.heap.size = w.heap.size + 1 := by rw [← hx1]; simp
 have z2 : x2.heap.size = w.heap.size + 2 := by rw [← hx2]; simp [z1]
 have z3 : x3.heap.size = w.heap.size + 3 := by rw [← hx3]; simp [z2]
 have z4 : x4.heap.size = w.heap.size + 4 := by rw [← hx]; simp [z3]
 have b1 : Below w.heap.size w x1 := by rw [← hx1]; exact below_made _ _
 have b2 : Below x1.heap.size x1 x2 := by rw [← hx2]; exact below_made _ _
 have b3 : Below x2.heap.size x2 x3 := by rw [← hx3]; exact below_made _ _
 have b4 : Below x3.heap.size x3 x4 := by rw [← hx]; exact below_made _ _
 have m1 : x1.heap[w.heap.size]? = some (.cells #[.pointer (some ⟨t, 0, none⟩)] 67) := by rw [← hx1]; exact heap_alloc_new w _
 have m2 : x2.heap[w.heap.size + 1]? = some (.cells #[.int .u64 key] 28) := by rw [← hx2, ← z1]; exact heap_alloc_new x1 _
 have m3 : x3.heap[w.heap.size + 2]? = some (.cells #[.string val] 9) := by rw [← hx3, ← z2]; exact heap_alloc_new x2 _
 have m4 : x4.heap[w.heap.size + 3]? = some (.cells #[.bool false] 4) := by rw [← hx, ← z3]; exact heap_alloc_new x3 _
 have hlt := h.lt;have ht' := hlt t (by simp);have bw : Below w.heap.size w x4 := ((b1.trans (b2.mono (by omega))).trans (b3.mono (by omega))).trans (b4.mono (by omega));refine ⟨(((h.more b1 w.heap.size (Nat.le_refl _) (by omega)).more b2 (w.heap.size + 1) (by omega) (by omega)).more b3 (w.heap.size + 2) (by omega) (by omega)).more b4 (w.heap.size + 3) (by omega) (by omega), ⟨?_, ?_, ?_, ?_⟩, m4, fun k hk => bw.block k (hlt k hk), ht', hlt, bw⟩
 ·exact (b4.block _ (by omega)).trans ((b3.block _ (by omega)).trans ((b2.block _ (by omega)).trans m1))
 ·exact (b4.block _ (by omega)).trans ((b3.block _ (by omega)).trans m2)
 ·exact (b4.block _ (by omega)).trans m3
 ·exact (bw.block t ht').trans ht
theorem setT {w1 w2 : World} {t s : Nat} {root : Int} (hc : w1.heap[t]? = some (txC s root 0 false)) (h : w1.setCell ⟨t, 2, none⟩ (.int .i64 0) = w2) : w2.heap[t]? = some (txC s root 0 false) ∧ Frm (fun k => k = t) w1 w2 := by
 have f : Frm (fun k => k = t) w1 w2 := by rw [← h]; exact set_frmT _
 refine ⟨?_, f⟩;unfold txC at hc ⊢;rw [← h, heap_setCell_same _ _ 2 _ _ _ hc]
 rfl
theorem put_T {w0 w : World} {R : List Nat} {t d s n : Nat} {root key : Int} {val : ByteArray} {E : List Ent} (h : TrR w0 (t :: R) w d s n root E) (ht : w.heap[t]? = some (txC s root 0 false)) (ht0 : w0.heap.size ≤ t)
  (H0 : Nat) (h9 : H0 ≤ 8) (hE : E.length < 2 ^ (H0 + 1)) (hn : 2 * E.length + 2 * H0 + 5 ≤ n) (hk : 0 ≤ key ∧ key ≤ 18446744073709551615) (hv : val.size ≤ 40) :
  Calls Tryz.prog 31 #[.pointer (some ⟨t, 0, none⟩), .int .u64 key, .string val] w fun e w' => e = .returned (.bool true) ∧ ∃ q, TrR w0 (t :: R) w' d s n q (insE key val E) ∧ w'.heap[t]? = some (txC s q 0 false) ∧ ∀ k ∈ R, k ≠ t → w'.heap[k]? = w.heap[k]? := by
 obtain ⟨x4, hx4⟩ : ∃ x4, (((w.alloc (.cells #[.pointer (some ⟨t, 0, none⟩)] 67)).alloc (.cells #[.int .u64 key] 28)).alloc (.cells #[.string val] 9)).alloc (.cells #[.bool false] 4) = x4 := ⟨_, rfl⟩
 obtain ⟨hT, hP, hB, hK, htl, hlt, bw⟩ := boxes4 (key := key) (val := val) h ht x4 hx4
 have DO := Hd (do_put x4 t s root #[.pointer (some ⟨w.heap.size, 0, none⟩), .pointer (some ⟨w.heap.size + 1, 0, none⟩), .pointer (some ⟨w.heap.size + 2, 0, none⟩), .pointer (some ⟨w.heap.size + 3, 0, none⟩)] hP.2.2.2
  (fun c w' => c = 0 ∧ ∃ q, TrR w0 ((w.heap.size + 3) :: (w.heap.size + 2) :: (w.heap.size + 1) :: w.heap.size :: t :: R) w' d s n q (insE key val E) ∧ w'.heap[t]? = some (txC s q 0 false) ∧ ∀ k ∈ ((w.heap.size + 3) :: (w.heap.size + 2) :: (w.heap.size + 1) :: w.heap.size :: t :: R), k ≠ t → w'.heap[k]? = x4.heap[k]?)
  ((put1_is hT hP (by simp) ht0 H0 h9 hE hn hk hv).mono fun e w' ⟨h1, q, h2, h3, h4⟩ => ⟨0, h1, ⟨rfl, q, h2, h3, h4⟩, q, h3⟩))
 have HF := Hd (And.intro hB (And.intro hK (And.intro htl (And.intro hlt ht0))));have bx := (box1 hP.1).1;have HX := Hd hx4;clear h ht hT hP hB hK htl hlt h9 hE hn hk hv ht0 bw hx4;go_enter Tryz.func31, Tryz.ntmps31;go_upto_region 2 with fail
 try simp only [Nat.add_assoc, Nat.reduceAdd, World.heap_size_alloc]
 rw [HX.out];go_wp2_with fail;refine DO.out.mono ?_;rintro e w6 ⟨c, w5, rfl, ⟨rfl, q, h1, h2, h3⟩, hw6⟩;obtain ⟨g1, g2⟩ := setT h2 hw6;have hbr : w6.heap[w.heap.size + 3]? = some (.cells #[.bool false] 4) := (g2.block _ (h1.lt _ (by simp)) (by have := HF.out.2.2.1; omega)).trans ((h3 _ (by simp) (by have := HF.out.2.2.1; omega)).trans HF.out.1);have cbr := (box1 hbr).1
 have FIN : Hid (∃ q, TrR w0 (t :: R) w6 d s n q (insE key val E) ∧ w6.heap[t]? = some (txC s q 0 false) ∧ ∀ k ∈ R, k ≠ t → w6.heap[k]? = w.heap[k]?) := Hd (by
  refine ⟨q, (h1.turn (by simp) HF.out.2.2.2.2 g2).sub (fun k hk => by simp only [List.mem_cons] at hk ⊢; rcases hk with hk | hk <;> simp [hk]), g1, fun k hk hne => ?_⟩;have hm : k ∈ ((w.heap.size + 3) :: (w.heap.size + 2) :: (w.heap.size + 1) :: w.heap.size :: t :: R) := by simp [hk]
  exact (g2.block k (h1.lt k hm) hne).trans ((h3 k hm hne).trans (HF.out.2.1 k (by simp [hk]))))
 clear h1 h2 h3 hw6 g1 g2 hbr bx;go_wp2_with fail;go_ret;exact ⟨rfl, FIN.out⟩
theorem over_T {w : World} {t s : Nat} {root e : Int} {o : Bool} (ht : w.heap[t]? = some (txC s root e o)) :
  Calls Tryz.prog 40 #[.pointer (some ⟨t, 0, none⟩)] w fun e' w' => e' = .returned (.bool o) ∧ w = w' := by
 obtain ⟨c0, c1, c2, c3, _⟩ := cellsT ht;go_enter Tryz.func40, Tryz.ntmps40;go_wp2_with fail;go_ret;exact ⟨rfl, rfl⟩
def GetS (bt bk t s : Nat) (root key : Int) (w : World) : Prop := w.heap[bt]? = some (.cells #[.pointer (some ⟨t, 0, none⟩)] 67) ∧ w.heap[bk]? = some (.cells #[.int .u64 key] 28) ∧ w.heap[t]? = some (txC s root 0 false)
theorem GetS.kept {bt bk t s : Nat} {root key : Int} {w w' : World} {R : List Nat} (h : GetS bt bk t s root key w) (hm : bt ∈ R ∧ bk ∈ R ∧ t ∈ R) (hK : KeptL R w w') : GetS bt bk t s root key w' :=
 ⟨(hK _ hm.1).trans h.1, (hK _ hm.2.1).trans h.2.1, (hK _ hm.2.2).trans h.2.2⟩
theorem GetS.set {bt bk t s b i : Nat} {root key : Int} {v : Value} {w : World} (h : GetS bt bk t s root key w) (hn : bt ≠ b ∧ bk ≠ b ∧ t ≠ b) : GetS bt bk t s root key (w.setCell ⟨b, i, none⟩ v) :=
 ⟨(Below.heap_setCell _ _ _ _ hn.1).trans h.1, (Below.heap_setCell _ _ _ _ hn.2.1).trans h.2.1, (Below.heap_setCell _ _ _ _ hn.2.2).trans h.2.2⟩
theorem get1_is {w0 w : World} {R : List Nat} {t d s n bt bk bw bi : Nat} {root key : Int} {E : List Ent} (h : TrR w0 R w d s n root E) (ps : GetS bt bk t s root key w) (hm : bt ∈ R ∧ bk ∈ R ∧ t ∈ R) (hw : bw ∈ R ∧ bi ∈ R) (hl : w0.heap.size ≤ bw ∧ w0.heap.size ≤ bi) (hn : (bt ≠ bw ∧ bk ≠ bw ∧ t ≠ bw) ∧ (bt ≠ bi ∧ bk ≠ bi ∧ t ≠ bi) ∧ bw ≠ bi)
  (hv : w.heap[bw]? = some (.cells #[.string ⟨#[]⟩] 9) ∧ w.heap[bi]? = some (.cells #[.bool false] 4)) (hE : E.length ≤ 600) (hk : 0 ≤ key ∧ key ≤ 18446744073709551615) (gv : ByteArray) (gb : Bool) (hgv : getV key E = gv) (hgb : getB key E = gb) :
  Calls Tryz.prog 68 #[.pointer (some ⟨bt, 0, none⟩), .pointer (some ⟨bk, 0, none⟩), .pointer (some ⟨bw, 0, none⟩), .pointer (some ⟨bi, 0, none⟩)] w fun e w' => e = .returned (.int .i64 0) ∧ TrR w0 R w' d s n root E ∧ w'.heap[bw]? = some (.cells #[.string gv] 9) ∧ w'.heap[bi]? = some (.cells #[.bool gb] 4) ∧ ∀ k ∈ R, k ≠ bw → k ≠ bi → w'.heap[k]? = w.heap[k]? := by
 have PS := Hd (show GetS bt bk t s root key w.drew from ps);have TD := Hd (h.below Br.drew);have PT0 := get_R (h.below Br.drew) hE key hk;rw [hgv, hgb] at PT0;have PT := Hd PT0;have HN := Hd hn;have HL := Hd hl;have HV := Hd hv;clear h ps hE hk hn hl hv hgv hgb PT0;go_enter Tryz.func68, Tryz.ntmps68;go_upto_region 1 with fail
 refine wp_region_held_drew (S := fun w' => GetS bt bk t s root key w') (by kernel_rfl) PS.out (fun hS => ?_);refine Hv 0 6 ?va0x1 hS ?ha0x1 ?_
 case ha0x1 =>
  intro w9 s9;have k9 := (box1 s9.1).1;clear s9;go_simp;try (with_reducible rfl)
 simp only [SL];refine Hu 1 7 hS ?_;simp only [SL];refine Hu 2 8 hS ?_;simp only [SL];refine Hv 3 9 ?va3x4 hS ?ha3x4 ?_
 case ha3x4 =>
  intro w9 s9;obtain ⟨k0, k1, _, _, _⟩ := cellsT s9.2.2;clear s9;go_simp;try (with_reducible rfl)
 simp only [SL];refine Hv 4 10 ?va4x5 hS ?ha4x5 ?_
 case ha4x5 =>
  intro w9 s9;have k9 := (box1 s9.1).1;clear s9;go_simp;try (with_reducible rfl)
 simp only [SL];refine Hu 5 11 hS ?_;simp only [SL];refine Hu 6 12 hS ?_;simp only [SL];refine Hv 7 13 ?va7x8 hS ?ha7x8 ?_
 case ha7x8 =>
  intro w9 s9;obtain ⟨k0, k1, _, _, _⟩ := cellsT s9.2.2;clear s9;go_simp;try (with_reducible rfl)
 simp only [SL];refine Hv 8 14 ?va8x9 hS ?ha8x9 ?_
 case ha8x9 =>
  intro w9 s9;have k9 := (box1 s9.2.1).1;clear s9;go_simp;try (with_reducible rfl)
 simp only [SL];refine Hs 9 (fun K HK => ?_);go_simp;go_wp2_with fail;refine PT.out.mono ?_;rintro e w6 ⟨rfl, hb⟩;have hK : KeptL R w.drew w6 := TD.out.kept hb;have TD2 := Hd (TD.out.below hb);clear hb;refine HK.out _ _ ?_ ?_
 ·exact hS.kept hm hK
 clear HK K;try simp only [Act.put, SL]
 have hS' := hS.kept hm hK;clear hS;have hS := hS';clear hS';have V0 := (hK bw hw.1).trans HV.out.1;have I0 := (hK bi hw.2).trans HV.out.2;obtain ⟨u0, u1⟩ := box1 V0;refine Hu 10 5 hS ?_;simp only [SL];refine Hu 11 16 hS ?_;simp only [SL];refine Hu 12 17 hS ?_;simp only [SL];refine Hu 13 18 hS ?_;simp only [SL];refine Hs 14 (fun K HK => ?_);go_simp;go_wp2_with fail;refine HK.out _ _ ?_ ?_
 ·exact hS.set HN.out.1
 clear HK K;try simp only [Act.put, SL]
 have hS' := hS.set (i := 0) (v := .string gv) HN.out.1;clear hS;have hS := hS';clear hS';obtain ⟨w7, hw7⟩ : ∃ w7, w6.setCell ⟨bw, 0, none⟩ (.string gv) = w7 := ⟨_, rfl⟩
 rw [hw7] at hS;rw [hw7];have f7 : Frm (fun k => k = bw) w6 w7 := by rw [← hw7]; exact set_frmT _
 have V1 : w7.heap[bw]? = some (.cells #[.string gv] 9) := by rw [← hw7, heap_setCell_same _ _ 0 _ _ _ V0]; rfl
 have I1 := (f7.block bi (TD2.out.lt bi hw.2) (Ne.symm HN.out.2.2)).trans I0;have F7 := Hd f7;have V1' := Hd V1;have HK7 := Hd hK;clear u0 u1 V0 I0 hw7 f7 V1 hK;obtain ⟨u0, u1⟩ := box1 I1;refine Hs 15 (fun K HK => ?_);go_simp;go_wp2_with fail;refine HK.out _ _ ?_ ?_
 ·exact hS.set HN.out.2.1
 clear HK K;try simp only [Act.put, SL]
 have hS' := hS.set (i := 0) (v := .bool gb) HN.out.2.1;clear hS;have hS := hS';clear hS';obtain ⟨w8, hw8⟩ : ∃ w8, w7.setCell ⟨bi, 0, none⟩ (.bool gb) = w8 := ⟨_, rfl⟩
 rw [hw8] at hS;rw [hw8]
 have FIN : Hid (TrR w0 R w8 d s n root E ∧ w8.heap[bw]? = some (.cells #[.string gv] 9) ∧ w8.heap[bi]? = some (.cells #[.bool gb] 4) ∧ ∀ k ∈ R, k ≠ bw → k ≠ bi → w8.heap[k]? = w.heap[k]?) := Hd (by
  have f8 : Frm (fun k => k = bi) w7 w8 := by rw [← hw8]; exact set_frmT _
  have h7 := TD2.out.turn hw.1 HL.out.1 F7.out;refine ⟨h7.turn hw.2 HL.out.2 f8, (f8.block bw (h7.lt bw hw.1) HN.out.2.2).trans V1'.out, ?_, fun k hk h1 h2 => (f8.block k (h7.lt k hk) h2).trans ((F7.out.block k (TD2.out.lt k hk) h1).trans (HK7.out k hk))⟩;rw [← hw8, heap_setCell_same _ _ 0 _ _ _ I1]
  rfl)
 clear u0 u1 I1 hw8;refine Hu 16 4 hS ?_;simp only [SL];refine wpAnyH_done (by kernel_rfl) ?_ _;clear hS;go_wp2_with fail;go_ret;exact ⟨rfl, FIN.out⟩
theorem boxesG {w0 w : World} {R : List Nat} {t d s n : Nat} {root : Int} {E : List Ent} (h : TrR w0 (t :: R) w d s n root E) (o1 o2 o3 o4 : Obj) (x4 : World) (hx : (((w.alloc o1).alloc o2).alloc o3).alloc o4 = x4) :
  TrR w0 ((w.heap.size + 3) :: (w.heap.size + 2) :: (w.heap.size + 1) :: w.heap.size :: t :: R) x4 d s n root E ∧ x4.heap[w.heap.size]? = some o1 ∧ x4.heap[w.heap.size + 1]? = some o2 ∧ x4.heap[w.heap.size + 2]? = some o3 ∧ x4.heap[w.heap.size + 3]? = some o4 ∧ t < w.heap.size ∧ (∀ k ∈ t :: R, k < w.heap.size) ∧ Below w.heap.size w x4 := by
 obtain ⟨x1, hx1⟩ : ∃ x1, w.alloc o1 = x1 := ⟨_, rfl⟩
 obtain ⟨x2, hx2⟩ : ∃ x2, x1.alloc o2 = x2 := ⟨_, rfl⟩
 obtain ⟨x3, hx3⟩ : ∃ x3, x2.alloc o3 = x3 := ⟨_, rfl⟩
 rw [hx1, hx2, hx3] at hx;have z1 : x1.heap.size = w.heap.size + 1 := by rw [← hx1]; simp
 have z2 : x2.heap.size = w.heap.size + 2 := by rw [← hx2]; simp [z1]
 have z3 : x3.heap.size = w.heap.size + 3 := by rw [← hx3]; simp [z2]
 have z4 : x4.heap.size = w.heap.size + 4 := by rw [← hx]; simp [z3]
 have b1 : Below w.heap.size w x1 := by rw [← hx1]; exact below_made _ _
 have b2 : Below x1.heap.size x1 x2 := by rw [← hx2]; exact below_made _ _
 have b3 : Below x2.heap.size x2 x3 := by rw [← hx3]; exact below_made _ _
 have b4 : Below x3.heap.size x3 x4 := by rw [← hx]; exact below_made _ _
 have m1 : x1.heap[w.heap.size]? = some o1 := by rw [← hx1]; exact heap_alloc_new w _
 have m2 : x2.heap[w.heap.size + 1]? = some o2 := by rw [← hx2, ← z1]; exact heap_alloc_new x1 _
 have m3 : x3.heap[w.heap.size + 2]? = some o3 := by rw [← hx3, ← z2]; exact heap_alloc_new x2 _
 have m4 : x4.heap[w.heap.size + 3]? = some o4 := by rw [← hx, ← z3]; exact heap_alloc_new x3 _
 have hlt := h.lt;have bw : Below w.heap.size w x4 := ((b1.trans (b2.mono (by omega))).trans (b3.mono (by omega))).trans (b4.mono (by omega))
 exact ⟨(((h.more b1 w.heap.size (Nat.le_refl _) (by omega)).more b2 (w.heap.size + 1) (by omega) (by omega)).more b3 (w.heap.size + 2) (by omega) (by omega)).more b4 (w.heap.size + 3) (by omega) (by omega),
  (b4.block _ (by omega)).trans ((b3.block _ (by omega)).trans ((b2.block _ (by omega)).trans m1)), (b4.block _ (by omega)).trans ((b3.block _ (by omega)).trans m2), (b4.block _ (by omega)).trans m3, m4, hlt t (by simp), hlt, bw⟩
theorem get_T {w0 w : World} {R : List Nat} {t d s n : Nat} {root key : Int} {E : List Ent} (h : TrR w0 (t :: R) w d s n root E) (ht : w.heap[t]? = some (txC s root 0 false)) (ht0 : w0.heap.size ≤ t) (hE : E.length ≤ 600) (hk : 0 ≤ key ∧ key ≤ 18446744073709551615) (gv : ByteArray) (gb : Bool) (hgv : getV key E = gv) (hgb : getB key E = gb) :
  Calls Tryz.prog 37 #[.pointer (some ⟨t, 0, none⟩), .int .u64 key] w fun e w' => e = .returned (.tuple #[.string gv, .bool gb]) ∧ TrR w0 (t :: R) w' d s n root E ∧ w'.heap[t]? = some (txC s root 0 false) ∧ ∀ k ∈ R, k ≠ t → w'.heap[k]? = w.heap[k]? := by
 obtain ⟨x4, hx4⟩ : ∃ x4, (((w.alloc (.cells #[.pointer (some ⟨t, 0, none⟩)] 67)).alloc (.cells #[.int .u64 key] 28)).alloc (.cells #[.string ⟨#[]⟩] 9)).alloc (.cells #[.bool false] 4) = x4 := ⟨_, rfl⟩
 obtain ⟨hT, m1, m2, m3, m4, htl, hlt, bw⟩ := boxesG h _ _ _ _ x4 hx4;have ht4 := (bw.block t htl).trans ht;have hs0 := h.size.size
 have DO := Hd (do_get x4 t s root #[.pointer (some ⟨w.heap.size, 0, none⟩), .pointer (some ⟨w.heap.size + 1, 0, none⟩), .pointer (some ⟨w.heap.size + 2, 0, none⟩), .pointer (some ⟨w.heap.size + 3, 0, none⟩)] ht4
  (fun c w' => c = 0 ∧ TrR w0 ((w.heap.size + 3) :: (w.heap.size + 2) :: (w.heap.size + 1) :: w.heap.size :: t :: R) w' d s n root E ∧ w'.heap[w.heap.size + 2]? = some (.cells #[.string gv] 9) ∧ w'.heap[w.heap.size + 3]? = some (.cells #[.bool gb] 4) ∧ ∀ k ∈ ((w.heap.size + 3) :: (w.heap.size + 2) :: (w.heap.size + 1) :: w.heap.size :: t :: R), k ≠ w.heap.size + 2 → k ≠ w.heap.size + 3 → w'.heap[k]? = x4.heap[k]?)
  ((get1_is hT ⟨m1, m2, ht4⟩ (by simp) (by simp) ⟨by omega, by omega⟩ ⟨⟨by omega, by omega, by omega⟩, ⟨by omega, by omega, by omega⟩, by omega⟩ ⟨m3, m4⟩ hE hk gv gb hgv hgb).mono fun e w' ⟨h1, h2, h3, h4, h5⟩ => ⟨0, h1, ⟨rfl, h2, h3, h4, h5⟩, root, (h5 t (by simp) (by omega) (by omega)).trans ht4⟩))
 have HF := Hd (And.intro ht4 (And.intro bw (And.intro htl (And.intro hlt ht0))));have bx := (box1 m1).1;have HX := Hd hx4;clear h ht hT m1 m2 m3 m4 htl hlt ht0 bw hx4 hE hk hgv hgb ht4 hs0;go_enter Tryz.func37, Tryz.ntmps37;go_upto_region 3 with fail
 try simp only [Nat.add_assoc, Nat.reduceAdd, World.heap_size_alloc]
 rw [HX.out];go_wp2_with fail;refine DO.out.mono ?_;rintro e w6 ⟨c, w5, rfl, ⟨rfl, h1, h2, h3, h4⟩, hw6⟩;have htl := HF.out.2.2.1;obtain ⟨g1, g2⟩ := setT ((h4 t (by simp) (by omega) (by omega)).trans HF.out.1) hw6;have cv := (box1 ((g2.block _ (h1.lt (w.heap.size + 2) (by simp)) (by omega)).trans h2)).1;have ci := (box1 ((g2.block _ (h1.lt (w.heap.size + 3) (by simp)) (by omega)).trans h3)).1
 have FIN : Hid (TrR w0 (t :: R) w6 d s n root E ∧ w6.heap[t]? = some (txC s root 0 false) ∧ ∀ k ∈ R, k ≠ t → w6.heap[k]? = w.heap[k]?) := Hd (by
  refine ⟨(h1.turn (by simp) HF.out.2.2.2.2 g2).sub (fun k hk => by simp only [List.mem_cons] at hk ⊢; rcases hk with hk | hk <;> simp [hk]), g1, fun k hk hne => ?_⟩;have hm : k ∈ ((w.heap.size + 3) :: (w.heap.size + 2) :: (w.heap.size + 1) :: w.heap.size :: t :: R) := by simp [hk]
  have hkl := HF.out.2.2.2.1 k (by simp [hk]);exact (g2.block k (h1.lt k hm) hne).trans ((h4 k hm (by omega) (by omega)).trans (HF.out.2.1.block k hkl)))
 clear h1 h2 h3 h4 hw6 g1 g2 bx htl;go_wp2_with fail
 go_quiet (fail)
 have F2 : Hid (TrR w0 (t :: R) (w6.drewN nq) d s n root E ∧ (w6.drewN nq).heap[t]? = some (txC s root 0 false) ∧ ∀ k ∈ R, k ≠ t → (w6.drewN nq).heap[k]? = w.heap[k]?) := Hd (by
  have b := Below.refl w6.heap.size w6;exact ⟨FIN.out.1.below ⟨b.os, b.tape, b.output, b.size, b.block⟩, FIN.out.2.1, FIN.out.2.2⟩)
 clear FIN;go_wp2_with fail;go_ret2;exact ⟨rfl, F2.out⟩
theorem commit_R {w0 w : World} {R : List Nat} {d s n : Nat} {root : Int} {E : List Ent} (h : TrR w0 R w d s n root E) :
  Calls Tryz.prog 23 #[.pointer (some ⟨s, 0, none⟩), .int .i64 root] w fun e w' => e = .returned (.int .i64 0) ∧ Below w0.heap.size w0 w' ∧ KeptL R w w' := by
 have hf := h.fits;obtain ⟨hb, F, ⟨dk, st, ⟨FD, FS, h1, he⟩, G, ht, hl, hh⟩, hF, hR⟩ := h
 have hm : mayB st root = true := by
  rcases ht with ⟨rfl, _⟩ | ⟨hh', F0, P0, ⟨M, PM, _, _, _, rfl⟩, _, _, hlv⟩
  ·unfold mayB; rfl
  ·have := (hlv.2 root).1 (by simp)
   unfold mayB
   rcases this with h1 | ⟨h1, h2⟩
   ·rw [decide_eq_true h1]; simp
   ·rw [h1, decide_eq_false h2]; simp
 have hc := (commit_ok st dk root G.su hm (by rw [hh]; decide) (by rw [hh]; decide) (by rw [hh]; exact fmtH_ok.u) G.du (by rw [G.df]; decide) G.least).1;refine (commit_is w d s dk st FD FS h1 root (by omega)).mono ?_;rintro e w' ⟨rfl, FD', g1, g2, g3⟩;rw [hc];have hx : ∀ k, FD k ∨ FS k → F k := fun k hk => (he k).2 hk
 exact ⟨rfl, hb.trans (g2.below (fun k hk => hF k (hx k hk)) hb.size), fun k hk => g2.block k (hR k hk).1 (fun hy => (hR k hk).2 (hx k hy))⟩
theorem commit_T {w0 w : World} {R : List Nat} {t d s n : Nat} {root : Int} {E : List Ent} (h : TrR w0 (t :: R) w d s n root E) (ht : w.heap[t]? = some (txC s root 0 false)) (ht0 : w0.heap.size ≤ t) :
  Calls Tryz.prog 32 #[.pointer (some ⟨t, 0, none⟩)] w fun e w' => e = .returned (.int .i64 0) ∧ Below w0.heap.size w0 w' ∧ w'.heap[t]? = some (txC s root 0 true) := by
 obtain ⟨c0, c1, c2, c3, g⟩ := cellsT ht;have g3 := g 3;obtain ⟨w1, hw1⟩ : ∃ w1, w.setCell ⟨t, 3, none⟩ (.bool true) = w1 := ⟨_, rfl⟩
 have f1 : Frm (fun k => k = t) w w1 := by rw [← hw1]; exact set_frmT _
 have h1 := h.turn (by simp) ht0 f1
 have k1 : w1.heap[t]? = some (txC s root 0 true) := by
  unfold txC at ht ⊢;rw [← hw1, heap_setCell_same _ _ 3 _ _ _ ht]
  rfl
 obtain ⟨d0, d1, d2, d3, _⟩ := cellsT k1;have CM := Hd fun wq (hq : TrR w0 (t :: R) wq d s n root E) => commit_R hq
 have H1 := Hd h1;have K1 := Hd k1;have HW := Hd hw1;clear h ht ht0 g f1 h1 k1 hw1;go_enter Tryz.func32, Tryz.ntmps32;go_upto_region 7 with fail
 rw [HW.out];clear c0 c1 c2 c3 g3 HW;refine wp_region_held_drew (S := fun w' => w'.heap[t]? = some (txC s root 0 true)) (by kernel_rfl) K1.out (fun hS => ?_);refine Hu 0 22 hS ?_;simp only [SL];refine Hu 1 23 hS ?_;simp only [SL];refine Hu 2 24 hS ?_;simp only [SL];refine Hv 3 25 ?vc3x4 hS ?hc3x4 ?_
 case hc3x4 =>
  intro w9 s9;obtain ⟨k0, k1, _, _, _⟩ := cellsT s9;clear s9;go_simp;try (with_reducible rfl)
 simp only [SL];refine Hu 4 26 hS ?_;simp only [SL];refine Hu 5 27 hS ?_;simp only [SL];refine Hu 6 28 hS ?_;simp only [SL];refine Hv 7 29 ?vc7x8 hS ?hc7x8 ?_
 case hc7x8 =>
  intro w9 s9;obtain ⟨k0, k1, _, _, _⟩ := cellsT s9;clear s9;go_simp;try (with_reducible rfl)
 simp only [SL];refine Hs 8 (fun K HK => ?_);go_simp;go_wp2_with fail;refine (CM.out _ (H1.out.below Br.drew)).mono ?_;rintro e w6 ⟨rfl, hb, hK⟩;refine HK.out _ _ ?_ ?_
 ·exact (hK t (by simp)).trans hS
 clear HK K;try simp only [Act.put, SL]
 clear hS;have hS := hK t (by simp);have HS2 := Hd (hS.trans K1.out);clear hS;have hS := HS2.out;refine Hu 9 3 hS ?_;simp only [SL];refine wpAnyH_done (by kernel_rfl) ?_ _;have HB := Hd hb;clear hS hb hK;go_wp2_with fail;go_ret;exact ⟨rfl, HB.out, HS2.out⟩
theorem commitOver_T {w : World} {t s : Nat} {root e : Int} (ht : w.heap[t]? = some (txC s root e true)) :
  Calls Tryz.prog 32 #[.pointer (some ⟨t, 0, none⟩)] w fun e' w' => e' = .returned (.int .i64 6) ∧ w = w' := by
 obtain ⟨c0, c1, c2, c3, _⟩ := cellsT ht;go_enter Tryz.func32, Tryz.ntmps32;go_wp2_with fail;go_ret;exact ⟨rfl, rfl⟩
theorem begin_L {w0 w : World} {d s n : Nat} {dk : DkS} (h : DSL w0 w d s dk (ShS.new fmtH)) (G : Good dk (ShS.new fmtH)) (hT : TreeI dk (ShS.new fmtH) 0 []) (hl : dk.S.length = n) :
  Calls Tryz.prog 30 #[.pointer (some ⟨s, 0, none⟩)] w fun e w' => ∃ t, e = .returned (.pointer (some ⟨t, 0, none⟩)) ∧ TrR w0 [t] w' d s n 0 [] ∧ w'.heap[t]? = some (txC s 0 0 false) ∧ w0.heap.size ≤ t := by
 have RB := Hd (rollback_L h);have RT := Hd fun wq (hq : DSL w0 wq d s dk (ShS.new fmtH)) => root_L hq
 have HG := Hd (And.intro G (And.intro hT hl));clear h G hT hl;go_enter Tryz.func30, Tryz.ntmps30;go_wp2_with fail;refine RB.out.mono ?_;rintro e w1 ⟨rfl, hs⟩;have HS1 : Hid (DSL w0 w1 d s dk (ShS.new fmtH)) := Hd hs;clear hs RB;go_wp2_with fail;refine (RT.out _ HS1.out).mono ?_;rintro e w2 ⟨rfl, rfl⟩;rw [show (ShS.new fmtH).h.root = 0 from rfl]
 have FIN : Hid (TrR w0 [w1.heap.size] (w1.alloc (txC s 0 0 false)) d s n 0 [] ∧ (w1.alloc (txC s 0 0 false)).heap[w1.heap.size]? = some (txC s 0 0 false) ∧ w0.heap.size ≤ w1.heap.size) := Hd (by
  obtain ⟨FD, FS, h1, h2, h3, h4⟩ := HS1.out;have hq : TrR w0 [] w1 d s n 0 [] := ⟨h2, fun k => FD k ∨ FS k, ⟨dk, _, ⟨FD, FS, h1, fun _ => Iff.rfl⟩, HG.out.1, HG.out.2.1, HG.out.2.2, rfl⟩, fun k hk => hk.elim (h3 k) (h4 k), fun k hk => by cases hk⟩
  exact ⟨hq.more (below_made _ _) _ (Nat.le_refl _) (by simp), heap_alloc_new _ _, h2.size⟩)
 unfold txC at FIN;clear HS1 RT HG;go_wp2_with fail;go_ret;exact ⟨_, rfl, FIN.out⟩
theorem made12_is (w : World) (n : Nat) (h8 : 8 ≤ n) (hn : n ≤ 640) :
  Calls Tryz.prog 29 #[.int .i64 (n : Int)] w fun e w' => ∃ d s dk, e = .returned (.tuple #[.pointer (some ⟨d, 0, none⟩), .pointer (some ⟨s, 0, none⟩)]) ∧ DSL w w' d s dk (ShS.new fmtH) ∧ Good dk (ShS.new fmtH) ∧ TreeI dk (ShS.new fmtH) 0 [] ∧ dk.S.length = n := by
 have NY := Hd fun w => new_yes w n h8 hn
 have hln : (DkS.fresh n).S.length = n := by show (List.replicate n zs).length = n; rw [List.length_replicate]
 have FG := Hd (fmt_good (DkS.fresh n) rfl rfl (by rw [hln]; exact h8) (by rw [hln]; exact hn));rw [hln] at FG;clear h8 hn hln;go_enter Tryz.func29, Tryz.ntmps29;go_wp2_with fail;refine (NY.out _).mono ?_;intro e w1 hm;obtain ⟨d, rfl, hd⟩ := made_L Br hm;clear hm NY;have HD := Hd hd;clear hd;have pn := ptr_nilD ⟨d, 0, none⟩;go_wp2_with fail;refine (format_L HD.out FG.out.1).mono ?_;rintro e w3 ⟨s, rfl, hs⟩;have HS3 := Hd hs;clear hs HD;have sn := ptr_nilS ⟨s, 0, none⟩;go_wp2_with fail;go_ret2;exact ⟨d, s, _, rfl, HS3.out, FG.out.2.1, FG.out.2.2.1, FG.out.2.2.2⟩
theorem examples_yes12 (w : World) :
  Calls Tryz.prog 28 #[] w fun e w' => e = .returned (.bool true) ∧ Below w.heap.size w w' := by
 have MD := Hd fun w => made12_is w 20 (by decide) (by decide)
 obtain ⟨V, hV⟩ : ∃ V : ByteArray, (⟨#[102, 105, 118, 101]⟩ : ByteArray) = V := ⟨_, rfl⟩
 have HV := Hd hV;have hvv : (V.toList == [102, 105, 118, 101]) = true := by rw [← hV]; decide +kernel
 go_enter Tryz.func28, Tryz.ntmps28;try simp only [List.append_eq, List.cons_append, List.nil_append]
 go_wp2_with fail;refine (MD.out _).mono ?_;rintro e w1 ⟨d, s, dk, rfl, h1, h2, h3, h4⟩;have BG := Hd (begin_L h1 h2 h3 h4);have pn := ptr_nilD ⟨d, 0, none⟩;have sn := ptr_nilS ⟨s, 0, none⟩;clear h1 h2 h3 h4 MD;go_wp2_with fail;refine BG.out.mono ?_;rintro e w2 ⟨t, rfl, h1, h2, h3⟩;have HL := Hd h3;have PU := Hd (put_T (key := 5) (val := V) h1 h2 h3 0 (by decide) (by simp) (by simp) (by decide) (by rw [← HV.out]; decide));clear h1 h2 h3 BG;go_wp2_with fail;refine PU.out.mono ?_;rintro e w3 ⟨rfl, q, h1, h2, _⟩
 have GE := Hd (get_T (key := 5) h1 h2 HL.out (by simp [insE]) (by decide) V true (by simp [getV, getE, insE]) (by simp [getB, getE, insE]));clear h1 h2 PU;go_wp2_with fail;refine GE.out.mono ?_;rintro e w4 ⟨rfl, h1, h2, _⟩;have CM := Hd (commit_T h1 h2 HL.out);clear h1 h2 GE;go_wp2_with fail;refine CM.out.mono ?_;rintro e w5 ⟨rfl, h1, h2⟩;have HB := Hd h1;have HT := Hd h2;clear h1 h2 CM;go_wp2_with fail;refine (commitOver_T HT.out).mono ?_;rintro e w6 ⟨rfl, rfl⟩;go_wp2_with fail;refine (over_T HT.out).mono ?_;rintro e w6 ⟨rfl, rfl⟩;go_wp2_with fail;go_ret;exact ⟨rfl, HB.out⟩
end Go.Proofs.YtmomlhiokggfbaaGreatDoor
namespace Go.Proofs.YtmomlhiokggfbaaGreatDoor
set_option maxRecDepth 20000
set_option maxHeartbeats 12800000
set_option linter.unusedVariables false
set_option linter.unusedSimpArgs false
section
variable {P : Program} {ops : Array Oper} {Q : Exit → Act → World → Prop} {md : Region.Mode} {S : World → Prop}
def wpAnyY (P : Program) (md : Region.Mode) (ops : Array Oper) (Q : Exit → Act → World → Prop) (S : World → Prop) : Nat → Array Bool → Act → World → Prop
 | 0, b, a, w => Region.ready md ops b = [] ∧ Q .normal a w
 | n + 1, b, a, w => (Region.ready md ops b = [] → Q .normal a w) ∧ ∀ i ∈ Region.ready md ops b, wpOpIn Fence.wide 0 P ops Q i (fun a' w' => S w' ∧ wpAnyY P md ops Q S n (b.setIfInBounds i true) a' w') a w
theorem anyIn_of : ∀ (n : Nat) (b : Array Bool) (a : Act) (w : World), wpAnyY P md ops Q S n b a w → wpAnyIn Fence.wide 0 P md ops Q n b a w
 | 0, _, _, _, h => h
 | n + 1, _, _, _, h => ⟨h.1, fun i hi => wpOpIn_mono (fun a' w' k => anyIn_of n _ a' w' k.2) (h.2 i hi)⟩
theorem regionY {id : Nat} {a : Act} {w : World} (hm : P.follows .mixedOrders = true) (h : wpAnyY P .any ops Q S ops.size (Array.replicate ops.size false) a w.drew) : (Code.region id ops true).wpIn Fence.wide 0 P Q a w :=
 wpIn_region_any hm (anyIn_of _ _ _ _ h)
theorem yieldsY {i : Nat} {o : Oper} {v : Value} {a : Act} (hi : ops[i]? = some o) (hy : YieldsIf P ops S o v a) {K : Act → World → Prop} {w : World} (hS : S w) (h : K (a.put o.dst v) w) : wpOpIn Fence.wide 0 P ops Q i K a w := by
 unfold wpOpIn;simp only [hi]
 rcases hy with ⟨hw, hv⟩ | ⟨hw, rfl⟩
 ·simp only [hw, if_true, Oper.wpIn, show Fence.wide.round = none from rfl, Oper.semAt_none, hv w hS, Oper.uponIn]
  exact ⟨fun _ _ => trivial, h⟩
 ·simp only [hw, Bool.false_eq_true, if_false]
  exact ⟨fun _ _ => trivial, h⟩
theorem putY {j : Nat} {oi oj : Oper} {v : Value} (hj : ops[j]? = some oj) (hap : oi.apart ops oj = true) (hsi : ∀ cs b, oi.op ≠ .select cs b) (hsj : ∀ cs b, oj.op ≠ .select cs b)
  (hQ : ∀ c a w, Q (.panic c) (a.put oi.dst v) w → Q (.panic c) a w) {K : Act → World → Prop} {a : Act} {w : World} (hy : YieldsIf P ops S oi v a) (h : wpOpIn Fence.wide 0 P ops Q j K (a.put oi.dst v) w) :
  wpOpIn Fence.wide 0 P ops Q j (fun a' w' => YieldsIf P ops S oi v a' ∧ K (a'.put oi.dst v) w') a w := by
 obtain ⟨h1, h2, h3⟩ := Oper.apart_spec hap;have keep : ∀ (a : Act), YieldsIf P ops S oi v a → ∀ u, YieldsIf P ops S oi v (a.put oj.dst u) := fun a hy u => hy.of_same (execOp_put oi hsi a oj.dst u h3) (wanted_put oi a oj.dst u h3)
 unfold wpOpIn at *;simp only [hj] at *;rw [wanted_put oj a oi.dst v h1] at h
 split
 ·rename_i hw
  rw [if_pos hw] at h;refine ⟨fun _ _ => trivial, ?_⟩;have h := h.2;rw [show Fence.wide.round = none from rfl, Oper.semAt_none] at h ⊢;rw [execOp_put oj hsj a oi.dst v h1] at h;generalize (execOp a.eval oj).run P w = r at *
  cases r with
  | ok x w' =>
   cases x <;> simp only [Oper.uponIn] at h ⊢
   case value u => exact ⟨keep a hy u, by rw [← Act.put_comm a v u h2]; exact h⟩
   case skip => exact ⟨keep a hy _, by rw [← Act.put_comm a v undef h2]; exact h⟩
   case defer d =>
    refine ⟨keep { a with defers := d :: a.defers } (hy.of_same rfl rfl) _, ?_⟩;rw [← Act.put_comm _ v undef h2, ← Act.put_defers];exact h
   case enter f args =>
    refine ⟨h.1, CallsIn.mono h.2 fun e w'' he => ?_⟩
    cases e with
    | returned u => exact ⟨keep a hy u, by rw [← Act.put_comm a v u h2]; exact he⟩
    | panicked c => exact hQ _ _ _ he
    | outgrown => exact he
   case row row args => exact ⟨h.1, RowsIn.mono h.2 fun u w'' he => ⟨keep a hy u, by rw [← Act.put_comm a v u h2]; exact he⟩⟩
   case round l f tmps assign body =>
    refine ⟨h.1, RoundIn.mono h.2 fun e w'' he => ?_⟩
    cases e with
    | returned u => exact ⟨keep a hy u, by rw [← Act.put_comm a v u h2]; exact he⟩
    | panicked c => exact hQ _ _ _ he
    | outgrown => exact he
  | halt x w' =>
   cases x <;> simp only [Oper.uponIn] at h ⊢
   case panic u => exact hQ _ _ _ h
 ·rename_i hw
  rw [if_neg hw] at h;exact ⟨fun _ _ => trivial, keep a hy _, by rw [← Act.put_comm a v undef h2]; exact h.2⟩
theorem firstY {i : Nat} {oi : Oper} {v : Value} (hi : ops[i]? = some oi) (hsel : ∀ (j : Nat) (o : Oper) cs b, ops[j]? = some o → o.op ≠ .select cs b) (hQ : ∀ c a w, Q (.panic c) (a.put oi.dst v) w → Q (.panic c) a w) :
  ∀ (n : Nat) (b : Array Bool) (a : Act) (w : World), (∀ j oj, ops[j]? = some oj → j ≠ i → b.getD j true = false → (∀ e ∈ oj.after, Region.binds md e = true → e.on ≠ i) → oi.apart ops oj = true) →
   i ∈ Region.ready md ops b → YieldsIf P ops S oi v a → S w → wpAnyY P md ops Q S n (b.setIfInBounds i true) (a.put oi.dst v) w → wpAnyY P md ops Q S (n + 1) b a w := by
 intro n
 induction n with
 | zero =>
  intro b a w _ hr hy hS H;refine ⟨fun h => (by rw [h] at hr; cases hr), fun j hj => ?_⟩
  by_cases hji : j = i
  ·subst hji; exact yieldsY hi hy hS ⟨hS, H⟩
  ·have := ready_mono hj hji
   rw [H.1] at this
   cases this
 | succ n ih =>
  intro b a w hfree hr hy hS H;refine ⟨fun h => (by rw [h] at hr; cases hr), fun j hj => ?_⟩
  by_cases hji : j = i
  ·subst hji; exact yieldsY hi hy hS ⟨hS, H⟩
  ·have h1 := H.2 j (ready_mono hj hji)
   obtain ⟨hjun, oj, hoj, hall⟩ := mem_ready.1 hj
   have hnot : ∀ e ∈ oj.after, Region.binds md e = true → e.on ≠ i := fun e he hb heq => by
    have h1 := hall e he hb;have h0 := (mem_ready.1 hr).1;rw [heq] at h1
    rcases Nat.lt_or_ge i b.size with h' | h'
    ·simp [h'] at h0 h1; rw [h0] at h1; cases h1
    ·simp [Array.getElem?_eq_none h'] at h1
   have h2 := putY hoj (hfree j oj hoj hji hjun hnot) (fun cs b => hsel i oi cs b hi) (fun cs b => hsel j oj cs b hoj) hQ hy h1;refine wpOpIn_mono (fun a' w' h3 => ⟨h3.2.1, ih (b.setIfInBounds j true) a' w' (fun k ok hk hki hun hno => ?_) (ready_mono hr (Ne.symm hji)) h3.1 h3.2.1 ?_⟩) h2
   ·refine hfree k ok hk hki ?_ hno
    by_cases hjk : j = k
    ·subst hjk; exact hjun
    ·rw [getD_set_ne true hjk] at hun; exact hun
   ·rw [Array.setIfInBounds_comm _ _ hji]
    exact h3.2.2
theorem takeY {i : Nat} (d : Tmp) {oi : Oper} (v : Value) {n : Nat} {b : Array Bool} {a : Act} {w : World} (hi : ops[i]? = some oi) (hd : oi.dst = some d) (hs : Region.noSelect ops = true) (hf : Region.free md ops b i = true) (hr : (Region.ready md ops b).contains i = true)
  (hQ : ∀ c a w, Q (.panic c) (a.put oi.dst v) w → Q (.panic c) a w) (hS : S w) (hw : Region.wanted oi (yielded ops a.tmps) = true) (hy : ∀ w, S w → (execOp a.eval oi).run P w = .ok (.value v) w)
  (h : wpAnyY P md ops Q S n (b.setIfInBounds i true) { tmps := a.tmps.setIfInBounds d v, defers := a.defers } w) : wpAnyY P md ops Q S (n + 1) b a w :=
 firstY hi (Region.noSelect_spec hs) hQ n b a w (Region.free_spec hi hf) (by simpa using hr) (.inl ⟨hw, hy⟩) hS (by rw [hd]; exact h)
theorem stepY {i : Nat} {oi : Oper} {n : Nat} {b : Array Bool} {a : Act} {w : World} (hi : ops[i]? = some oi) (hr : Region.ready md ops b = [i]) (hw : Region.wanted oi (yielded ops a.tmps) = true)
  (h : ∀ K : Act → World → Prop, (∀ a2 w2, S w2 → wpAnyY P md ops Q S n (b.setIfInBounds i true) a2 w2 → K a2 w2) → Oper.wpIn Fence.wide 0 P oi a w K Q) : wpAnyY P md ops Q S (n + 1) b a w := by
 refine ⟨fun e => (by rw [hr] at e; cases e), fun j hj => ?_⟩;rw [hr, List.mem_singleton] at hj;subst hj;unfold wpOpIn;simp only [hi, hw, if_true];exact h _ fun a2 w2 h1 h2 => ⟨h1, h2⟩
theorem doneY {b : Array Bool} {a : Act} {w : World} (hr : Region.ready md ops b = []) (h : Q .normal a w) : ∀ n, wpAnyY P md ops Q S n b a w
 | 0 => ⟨hr, h⟩
 | _ + 1 => ⟨fun _ => h, by rw [hr]; simp⟩
end
end Go.Proofs.YtmomlhiokggfbaaGreatDoor
