/-
 TrM, TrP, TrC, Frm, MapInts, SetI.
-/
import Derived.Test.YtmomlhiokggfbaaGreatDoorL03
import Derived.Test.YtmomlhiokggfbaaGreatDoorL01
import Derived.Laws.Rows
import Derived.Laws.Tables
import Derived.Laws.CopyOwn
import Derived.MapKept
import Derived.Laws.AppendOwn
import Derived.Maps.RangeRun
namespace Go.Proofs.YtmomlhiokggfbaaGreatDoor
set_option maxRecDepth 20000
set_option maxHeartbeats 12800000
set_option linter.unusedVariables false
set_option linter.unusedSimpArgs false
abbrev Mk := Int × Option ByteArray
abbrev Ent := Int × ByteArray
def ordM (m : Mk) : Int := 2 * m.1 + (if m.2.isSome then 1 else 0)
def SortM (F : List Mk) : Prop := F.Pairwise fun a b => ordM a < ordM b
def entM (m : Mk) : Option Ent := m.2.map fun v => (m.1, v)
def entsM (F : List Mk) : List Ent := F.filterMap entM
def insE (k : Int) (v : ByteArray) (m : List Ent) : List Ent := m.filter (fun e => decide (e.1 < k)) ++ (k, v) :: m.filter (fun e => decide (k < e.1))
def delE (k : Int) (m : List Ent) : List Ent := m.filter fun e => decide (e.1 ≠ k)
def getE (k : Int) (m : List Ent) : Option ByteArray := (m.find? fun e => decide (e.1 = k)).map (·.2)
def leafM : List Int → List ByteArray → List Mk
 | k :: K, v :: V => (k, some v) :: leafM K V
 | _, _ => []
structure Kid where
 p : Int
 F : List Mk
 P : List Int
def kP (Q : List Kid) : List Int := Q.map Kid.p
def kPs (Q : List Kid) : List Int := (Q.map Kid.P).flatten
def interL (K : List Int) (Q : List Kid) : List Mk := (List.zipWith (fun k (q : Kid) => q.F ++ [(k, none)]) K Q).flatten
def interR (K : List Int) (Q : List Kid) : List Mk := (List.zipWith (fun k (q : Kid) => (k, none) :: q.F) K Q).flatten
def interM : List Int → List Kid → List Mk
 | _, [] => []
 | [], q :: _ => q.F
 | k :: K, q :: Q => q.F ++ (k, none) :: interM K Q
def NodT (R : Int → Option Nod) : Nat → Nod → List Mk → List Int → Prop
 | 0, N, F, P => N.leaf = true ∧ N.V.length = N.K.length ∧ N.C = [] ∧ F = leafM N.K N.V ∧ P = []
 | h + 1, N, F, P => N.leaf = false ∧ N.V = [] ∧ ∃ Q : List Kid, N.C = kP Q ∧ Q.length = N.K.length + 1 ∧ (∀ q ∈ Q, ∃ M PM, R q.p = some M ∧ M.K ≠ [] ∧ NodT R h M q.F PM ∧ q.P = q.p :: PM) ∧ F = interM N.K Q ∧ P = kPs Q
def IsT (R : Int → Option Nod) (h : Nat) (p : Int) (F : List Mk) (P : List Int) : Prop := ∃ M PM, R p = some M ∧ M.K ≠ [] ∧ NodT R h M F PM ∧ P = p :: PM
theorem NodT_succ {R : Int → Option Nod} {h : Nat} {N : Nod} {F : List Mk} {P : List Int} :
  NodT R (h + 1) N F P ↔ N.leaf = false ∧ N.V = [] ∧ ∃ Q : List Kid, N.C = kP Q ∧ Q.length = N.K.length + 1 ∧ (∀ q ∈ Q, IsT R h q.p q.F q.P) ∧ F = interM N.K Q ∧ P = kPs Q := Iff.rfl
theorem kPs_append (A B : List Kid) : kPs (A ++ B) = kPs A ++ kPs B := by simp [kPs]
theorem kPs_cons (q : Kid) (B : List Kid) : kPs (q :: B) = q.P ++ kPs B := by simp [kPs]
theorem kP_append (A B : List Kid) : kP (A ++ B) = kP A ++ kP B := by simp [kP]
theorem kP_length (A : List Kid) : (kP A).length = A.length := by simp [kP]
theorem mem_kPs {x : Int} {Q : List Kid} : x ∈ kPs Q ↔ ∃ q ∈ Q, x ∈ q.P := by
 unfold kPs;rw [List.mem_flatten];constructor
 ·rintro ⟨l, hl, hx⟩
  obtain ⟨q, hq, rfl⟩ := List.mem_map.1 hl;exact ⟨q, hq, hx⟩
 ·rintro ⟨q, hq, hx⟩
  exact ⟨q.P, List.mem_map.2 ⟨q, hq, rfl⟩, hx⟩
theorem entsM_append (A B : List Mk) : entsM (A ++ B) = entsM A ++ entsM B := by simp [entsM]
theorem entsM_sep (k : Int) (B : List Mk) : entsM ((k, none) :: B) = entsM B := List.filterMap_cons_none rfl
theorem entsM_ent (k : Int) (v : ByteArray) (B : List Mk) : entsM ((k, some v) :: B) = (k, v) :: entsM B := List.filterMap_cons_some rfl
theorem SortM_append {A B : List Mk} : SortM (A ++ B) ↔ SortM A ∧ SortM B ∧ ∀ a ∈ A, ∀ b ∈ B, ordM a < ordM b := List.pairwise_append
theorem SortM_cons {a : Mk} {B : List Mk} : SortM (a :: B) ↔ (∀ b ∈ B, ordM a < ordM b) ∧ SortM B := List.pairwise_cons
theorem ord_sep (k : Int) : ordM (k, none) = 2 * k := by simp [ordM]
theorem ord_ent (k : Int) (v : ByteArray) : ordM (k, some v) = 2 * k + 1 := by simp [ordM]
theorem NodT_congr {R R' : Int → Option Nod} : ∀ (h : Nat) {N : Nod} {F : List Mk} {P : List Int}, NodT R h N F P → (∀ p ∈ P, R' p = R p) → NodT R' h N F P := by
 intro h
 induction h with
 | zero => intro N F P hn _; exact hn
 | succ h ih =>
  intro N F P hn hr;obtain ⟨h1, h2, Q, h3, h4, h5, h6, h7⟩ := hn;refine ⟨h1, h2, Q, h3, h4, fun q hq => ?_, h6, h7⟩;obtain ⟨M, PM, m1, m2, m3, m4⟩ := h5 q hq;have hsub : ∀ p ∈ q.P, R' p = R p := fun p hp => hr p (by rw [h7]; exact mem_kPs.2 ⟨q, hq, hp⟩)
  exact ⟨M, PM, (hsub q.p (by rw [m4]; simp)).trans m1, m2, ih m3 (fun p hp => hsub p (by rw [m4]; simp [hp])), m4⟩
theorem IsT_congr {R R' : Int → Option Nod} {h : Nat} {p : Int} {F : List Mk} {P : List Int} (ht : IsT R h p F P) (hr : ∀ p ∈ P, R' p = R p) : IsT R' h p F P := by
 obtain ⟨M, PM, m1, m2, m3, m4⟩ := ht;exact ⟨M, PM, (hr p (by rw [m4]; simp)).trans m1, m2, NodT_congr h m3 (fun x hx => hr x (by rw [m4]; simp [hx])), m4⟩
theorem leafM_append : ∀ (K : List Int) (V : List ByteArray) (K' : List Int) (V' : List ByteArray), V.length = K.length → leafM (K ++ K') (V ++ V') = leafM K V ++ leafM K' V' := by
 intro K
 induction K with
 | nil => intro V K' V' h; cases V with | nil => rfl | cons _ _ => cases h
 | cons k K ih =>
  intro V K' V' h
  cases V with
  | nil => cases h
  | cons v V => simp only [List.cons_append, leafM]; rw [ih V K' V' (by simpa using h)]
theorem leafM_ents : ∀ (K : List Int) (V : List ByteArray), V.length = K.length → (entsM (leafM K V)).length = K.length := by
 intro K
 induction K with
 | nil => intro V h; rfl
 | cons k K ih =>
  intro V h
  cases V with
  | nil => cases h
  | cons v V => simp only [leafM, entsM_ent, List.length_cons]; rw [ih V (by simpa using h)]
theorem leafM_mem {K : List Int} {V : List ByteArray} {m : Mk} : m ∈ leafM K V → ∃ v, m.2 = some v ∧ m.1 ∈ K ∧ v ∈ V := by
 induction K generalizing V with
 | nil => intro h; cases V <;> cases h
 | cons k K ih =>
  intro h
  cases V with
  | nil => cases h
  | cons v V =>
   simp only [leafM, List.mem_cons] at h
   rcases h with rfl | h
   ·exact ⟨v, rfl, by simp, by simp⟩
   ·obtain ⟨x, h1, h2, h3⟩ := ih h
    exact ⟨x, h1, by simp [h2], by simp [h3]⟩
theorem leafM_keys : ∀ (K : List Int) (V : List ByteArray), V.length = K.length → (leafM K V).map (·.1) = K := by
 intro K
 induction K with
 | nil => intro V h; cases V with | nil => rfl | cons _ _ => cases h
 | cons k K ih =>
  intro V h
  cases V with
  | nil => cases h
  | cons v V => simp only [leafM, List.map_cons]; rw [ih V (by simpa using h)]
theorem interL_cons (k : Int) (K : List Int) (q : Kid) (Q : List Kid) : interL (k :: K) (q :: Q) = q.F ++ (k, none) :: interL K Q := by simp [interL]
theorem interR_cons (k : Int) (K : List Int) (q : Kid) (Q : List Kid) : interR (k :: K) (q :: Q) = (k, none) :: (q.F ++ interR K Q) := by simp [interR]
theorem interM_R : ∀ (K : List Int) (q : Kid) (Q : List Kid), Q.length = K.length → interM K (q :: Q) = q.F ++ interR K Q := by
 intro K
 induction K with
 | nil => intro q Q h; cases Q with | nil => simp [interM, interR] | cons _ _ => cases h
 | cons k K ih =>
  intro q Q h
  cases Q with
  | nil => cases h
  | cons q' Q => rw [interR_cons]; show q.F ++ (k, none) :: interM K (q' :: Q) = _; rw [ih q' Q (by simpa using h)]
theorem interM_L : ∀ (KA : List Int) (A : List Kid) (K : List Int) (Q : List Kid), A.length = KA.length → Q ≠ [] → interM (KA ++ K) (A ++ Q) = interL KA A ++ interM K Q := by
 intro KA
 induction KA with
 | nil => intro A K Q h hq; cases A with | nil => simp [interL] | cons _ _ => cases h
 | cons k KA ih =>
  intro A K Q h hq
  cases A with
  | nil => cases h
  | cons a A =>
   rw [interL_cons]
   show a.F ++ (k, none) :: interM (KA ++ K) (A ++ Q) = _
   rw [ih A K Q (by simpa using h) hq];simp
theorem interM_mid (KA KM KB : List Int) (A QM B : List Kid) (hA : A.length = KA.length) (hM : QM.length = KM.length + 1) (hB : B.length = KB.length) :
  interM (KA ++ KM ++ KB) (A ++ QM ++ B) = interL KA A ++ interM KM QM ++ interR KB B := by
 rw [List.append_assoc, List.append_assoc, interM_L KA A _ _ hA (by cases QM with | nil => simp at hM | cons _ _ => simp)]
 have e : interM (KM ++ KB) (QM ++ B) = interM KM QM ++ interR KB B := by
  obtain ⟨X, q, rfl⟩ : ∃ X q, QM = X ++ [q] := by
   cases h : QM.reverse with
   | nil => simp at h; subst h; simp at hM
   | cons q X => exact ⟨X.reverse, q, by simpa using congrArg List.reverse h⟩
  have hX : X.length = KM.length := by simpa using hM
  rw [List.append_assoc, interM_L KM X KB ([q] ++ B) hX (by simp)];have e1 := interM_L KM X [] [q] hX (by simp);rw [List.append_nil] at e1;rw [e1]
  show interL KM X ++ interM KB (q :: B) = _
  rw [interM_R KB q B hB];simp [interM]
 rw [e]; simp
theorem interM_one (q : Kid) : interM [] [q] = q.F := rfl
theorem interM_two (k : Int) (q r : Kid) : interM [k] [q, r] = q.F ++ (k, none) :: r.F := rfl
theorem interM_keys : ∀ (K : List Int) (Q : List Kid), Q.length = K.length + 1 → List.Sublist (K.map fun k => ((k, none) : Mk)) (interM K Q) := by
 intro K
 induction K with
 | nil => intro Q h; exact List.nil_sublist _
 | cons k K ih =>
  intro Q h
  cases Q with
  | nil => simp at h
  | cons q Q =>
   show List.Sublist _ (q.F ++ (k, none) :: interM K Q)
   exact (List.Sublist.cons_cons _ (ih Q (by simpa using h))).trans (List.sublist_append_right _ _)
theorem rise_of_sort {R : Int → Option Nod} {h : Nat} {N : Nod} {F : List Mk} {P : List Int} (ht : NodT R h N F P) (hs : SortM F) : N.K.Pairwise (· < ·) := by
 cases h with
 | zero =>
  obtain ⟨h1, h2, h3, h4, h5⟩ := ht;rw [← leafM_keys N.K N.V h2];subst h4;rw [List.pairwise_map];refine List.Pairwise.imp_of_mem ?_ hs;intro a b ha hb hab;obtain ⟨va, ea, _⟩ := leafM_mem ha;obtain ⟨vb, eb, _⟩ := leafM_mem hb;unfold ordM at hab;rw [ea, eb] at hab;simp at hab;omega
 | succ h =>
  obtain ⟨h1, h2, Q, h3, h4, h5, h6, h7⟩ := ht;subst h6;have hp := List.Pairwise.sublist (interM_keys N.K Q h4) hs;rw [List.pairwise_map] at hp;refine List.Pairwise.imp ?_ hp;intro a b hab;rw [ord_sep, ord_sep] at hab;omega
theorem whole_of {R : Int → Option Nod} {h : Nat} {N : Nod} {F : List Mk} {P : List Int} (ht : NodT R h N F P) : wholeB N = true := by
 cases h with
 | zero =>
  obtain ⟨h1, h2, h3, h4, h5⟩ := ht;exact (wholeB_leaf h1).2 ⟨h2, by rw [h3]; rfl⟩
 | succ h =>
  obtain ⟨h1, h2, Q, h3, h4, h5, h6, h7⟩ := ht;exact (wholeB_branch h1).2 ⟨by rw [h3, kP_length, h4], by rw [h2]; rfl⟩
theorem leaf_of {R : Int → Option Nod} {h : Nat} {N : Nod} {F : List Mk} {P : List Int} (ht : NodT R h N F P) : N.leaf = decide (h = 0) := by
 cases h with
 | zero => rw [ht.1]; rfl
 | succ h => rw [ht.1]; simp
theorem right_of {R : Int → Option Nod} {h : Nat} {N : Nod} {F : List Mk} {P : List Int} (ht : NodT R h N F P) (hs : SortM F) (hv : ∀ v ∈ N.V, v.size ≤ 40) (hc : ∀ c ∈ N.C, 2 ≤ c ∧ c < 640) (hk : N.K ≠ []) (hz : sizeN N ≤ 240) : rightN N = true := by
 refine (rightN_iff N).2 ⟨(plainB_iff N).2 ⟨fun i hi => ?_, hv, hc⟩, whole_of ht, fun _ => ?_, hz⟩
 ·exact List.pairwise_iff_getElem.1 (rise_of_sort ht hs) i (i + 1) (by omega) hi (by omega)
 ·exact List.length_pos_iff.2 hk
theorem interM_count : ∀ (K : List Int) (Q : List Kid), Q.length = K.length + 1 → (entsM (interM K Q)).length = (Q.map fun q => (entsM q.F).length).sum := by
 intro K
 induction K with
 | nil =>
  intro Q h
  cases Q with
  | nil => simp at h
  | cons q Q => cases Q with | nil => simp [interM] | cons _ _ => simp at h
 | cons k K ih =>
  intro Q h
  cases Q with
  | nil => simp at h
  | cons q Q =>
   show (entsM (q.F ++ (k, none) :: interM K Q)).length = _
   rw [entsM_append, entsM_sep, List.length_append, ih Q (by simpa using h)];simp
theorem count_of {R : Int → Option Nod} : ∀ (h : Nat) {N : Nod} {F : List Mk} {P : List Int}, NodT R h N F P → N.K ≠ [] → P.length + 2 ≤ 2 * (entsM F).length ∧ 2 ^ h ≤ (entsM F).length := by
 intro h
 induction h with
 | zero =>
  intro N F P ht hk;obtain ⟨h1, h2, h3, h4, h5⟩ := ht;subst h4 h5;have := List.length_pos_iff.2 hk;rw [leafM_ents _ _ h2];simp; omega
 | succ h ih =>
  intro N F P ht hk;obtain ⟨h1, h2, Q, h3, h4, h5, h6, h7⟩ := ht;subst h6 h7;rw [interM_count _ _ h4]
  have hq : ∀ q ∈ Q, q.P.length + 1 ≤ 2 * (entsM q.F).length ∧ 2 ^ h ≤ (entsM q.F).length := by
   intro q hq;obtain ⟨M, PM, m1, m2, m3, m4⟩ := h5 q hq;have := ih m3 m2;rw [m4, List.length_cons];omega
  have h2 : 2 ≤ Q.length := by have := List.length_pos_iff.2 hk; omega
  have e1 : (kPs Q).length + Q.length ≤ 2 * (Q.map fun q => (entsM q.F).length).sum := by
   clear h3 h4 h5 h2
   induction Q with
   | nil => simp [kPs]
   | cons q Q ihq =>
    have h1 := (hq q (by simp)).1;have h2 := ihq fun r hr => hq r (by simp [hr])
    rw [kPs_cons];simp only [List.length_append, List.length_cons, List.map_cons, List.sum_cons];omega
  have e2 : Q.length * 2 ^ h ≤ (Q.map fun q => (entsM q.F).length).sum := by
   clear h3 h4 h5 h2 e1
   induction Q with
   | nil => simp
   | cons q Q ihq =>
    have h1 := (hq q (by simp)).2;have h2 := ihq fun r hr => hq r (by simp [hr])
    simp only [List.length_cons, List.map_cons, List.sum_cons, Nat.add_mul];omega
  refine ⟨by omega, Nat.le_trans ?_ e2⟩;rw [Nat.pow_succ, Nat.mul_comm];exact Nat.mul_le_mul_right _ h2
theorem IsT_count {R : Int → Option Nod} {h : Nat} {p : Int} {F : List Mk} {P : List Int} (ht : IsT R h p F P) : P.length + 1 ≤ 2 * (entsM F).length ∧ 2 ^ h ≤ (entsM F).length := by
 obtain ⟨M, PM, m1, m2, m3, m4⟩ := ht;have := count_of h m3 m2;rw [m4, List.length_cons];omega
theorem filter_all {α : Type} (p : α → Bool) (l : List α) (h : ∀ x ∈ l, p x = true) : l.filter p = l := List.filter_eq_self.2 h
theorem filter_none {α : Type} (p : α → Bool) (l : List α) (h : ∀ x ∈ l, p x = false) : l.filter p = [] := List.filter_eq_nil_iff.2 fun x hx => by rw [h x hx]; decide
theorem insE_new (A B : List Ent) (k : Int) (v : ByteArray) (hA : ∀ e ∈ A, e.1 < k) (hB : ∀ e ∈ B, k < e.1) : insE k v (A ++ B) = A ++ (k, v) :: B := by
 unfold insE;rw [List.filter_append, List.filter_append, filter_all _ A (fun e he => decide_eq_true (hA e he)), filter_none _ B (fun e he => decide_eq_false (by have := hB e he; omega)), filter_none _ A (fun e he => decide_eq_false (by have := hA e he; omega)), filter_all _ B (fun e he => decide_eq_true (hB e he))];simp
theorem insE_old (A B : List Ent) (k : Int) (x v : ByteArray) (hA : ∀ e ∈ A, e.1 < k) (hB : ∀ e ∈ B, k < e.1) : insE k v (A ++ (k, x) :: B) = A ++ (k, v) :: B := by
 unfold insE;rw [List.filter_append, List.filter_append, filter_all _ A (fun e he => decide_eq_true (hA e he)), filter_none _ A (fun e he => decide_eq_false (by have := hA e he; omega)), List.filter_cons_of_neg (by simp), List.filter_cons_of_neg (by simp), filter_none _ B (fun e he => decide_eq_false (by have := hB e he; omega)), filter_all _ B (fun e he => decide_eq_true (hB e he))];simp
theorem delE_old (A B : List Ent) (k : Int) (x : ByteArray) (hA : ∀ e ∈ A, e.1 < k) (hB : ∀ e ∈ B, k < e.1) : delE k (A ++ (k, x) :: B) = A ++ B := by
 unfold delE;rw [List.filter_append, filter_all _ A (fun e he => decide_eq_true (by have := hA e he; omega)), List.filter_cons_of_neg (by simp), filter_all _ B (fun e he => decide_eq_true (by have := hB e he; omega))]
theorem getE_none (m : List Ent) (k : Int) (h : ∀ e ∈ m, e.1 ≠ k) : getE k m = none := by
 unfold getE;rw [List.find?_eq_none.2 (fun e he => by simpa using h e he)]
 rfl
theorem getE_old (A B : List Ent) (k : Int) (x : ByteArray) (hA : ∀ e ∈ A, e.1 < k) : getE k (A ++ (k, x) :: B) = some x := by
 unfold getE;rw [List.find?_append, List.find?_eq_none.2 (fun e he => by have := hA e he; simp; omega)];simp
theorem findL (key : Int) : ∀ (K : List Int) (i : Nat), K.Pairwise (· < ·) → ∃ q,
  (findAt true key K i = (i + q, true) ∧ q < K.length ∧ K[q]? = some key ∧ (∀ x ∈ K.take q, x < key) ∧ ∀ x ∈ K.drop (q + 1), key < x) ∨
  (findAt true key K i = (i + q, false) ∧ q ≤ K.length ∧ (∀ x ∈ K.take q, x < key) ∧ ∀ x ∈ K.drop q, key < x) := by
 intro K
 induction K with
 | nil => exact fun i _ => ⟨0, .inr ⟨rfl, Nat.le_refl _, by simp, by simp⟩⟩
 | cons k r ih =>
  intro i hp;obtain ⟨hp1, hp2⟩ := List.pairwise_cons.1 hp;unfold findAt
  by_cases h1 : k = key
  ·subst h1
   exact ⟨0, .inl ⟨by simp, by simp, by simp, by simp, by simpa using hp1⟩⟩
  ·rw [if_neg (by simp [h1])]
   by_cases h2 : key < k
   ·rw [if_pos h2]
    refine ⟨0, .inr ⟨rfl, Nat.zero_le _, by simp, ?_⟩⟩;intro x hx;simp only [List.drop_zero, List.mem_cons] at hx
    rcases hx with rfl | hx
    ·exact h2
    ·have := hp1 x hx; omega
   ·rw [if_neg h2]
    obtain ⟨q, hq⟩ := ih (i + 1) hp2;refine ⟨q + 1, ?_⟩
    rcases hq with ⟨a, b, c, d, e⟩ | ⟨a, b, d, e⟩
    ·refine .inl ⟨by rw [a]; simp; omega, by simp; omega, by simpa using c, ?_, by simpa using e⟩
     intro x hx;simp only [List.take_succ_cons, List.mem_cons] at hx
     rcases hx with rfl | hx
     ·omega
     ·exact d x hx
    ·refine .inr ⟨by rw [a]; simp; omega, by simp; omega, ?_, by simpa using e⟩
     intro x hx;simp only [List.take_succ_cons, List.mem_cons] at hx
     rcases hx with rfl | hx
     ·omega
     ·exact d x hx
theorem findB (key : Int) : ∀ (K : List Int) (i : Nat), K.Pairwise (· < ·) → ∃ q, findAt false key K i = (i + q, true) ∧ q ≤ K.length ∧ (∀ x ∈ K.take q, x ≤ key) ∧ ∀ x ∈ K.drop q, key < x := by
 intro K
 induction K with
 | nil => exact fun i _ => ⟨0, rfl, Nat.le_refl _, by simp, by simp⟩
 | cons k r ih =>
  intro i hp;obtain ⟨hp1, hp2⟩ := List.pairwise_cons.1 hp;unfold findAt;rw [if_neg (by simp)]
  by_cases h2 : key < k
  ·rw [if_pos h2]
   refine ⟨0, rfl, Nat.zero_le _, by simp, ?_⟩;intro x hx;simp only [List.drop_zero, List.mem_cons] at hx
   rcases hx with rfl | hx
   ·exact h2
   ·have := hp1 x hx; omega
  ·rw [if_neg h2]
   obtain ⟨q, a, b, d, e⟩ := ih (i + 1) hp2;refine ⟨q + 1, by rw [a]; simp; omega, by simp; omega, ?_, by simpa using e⟩;intro x hx;simp only [List.take_succ_cons, List.mem_cons] at hx
   rcases hx with rfl | hx
   ·omega
   ·exact d x hx
theorem leaf_place {R : Int → Option Nod} {N : Nod} {F : List Mk} {P : List Int} (ht : NodT R 0 N F P) (hs : SortM F) (key : Int) :
  ∃ (i : Nat) (X Y : List Mk), (∀ m ∈ X, ordM m < 2 * key + 1) ∧ (∀ m ∈ Y, 2 * key + 1 < ordM m) ∧
   ((∃ old, findN N key = (i, true) ∧ i < N.K.length ∧ N.V[i]? = some old ∧ F = X ++ (key, some old) :: Y ∧
     (∀ v, NodT R 0 (putN N key v) (X ++ (key, some v) :: Y) []) ∧ NodT R 0 (withoutN N i) (X ++ Y) []) ∨
    (findN N key = (i, false) ∧ F = X ++ Y ∧ ∀ v, NodT R 0 (putN N key v) (X ++ (key, some v) :: Y) [])) := by
 have hw := whole_of ht;have hr := rise_of_sort ht hs;obtain ⟨h1, h2, h3, h4, h5⟩ := ht;have hf : findN N key = findAt true key N.K 0 := by unfold findN; rw [if_pos hw, h1]
 have hput : ∀ v, putN N key v = { leaf := true, K := N.K.take (findN N key).1 ++ [key] ++ N.K.drop ((findN N key).1 + (if (findN N key).2 then 1 else 0)), V := N.V.take (findN N key).1 ++ [v] ++ N.V.drop ((findN N key).1 + (if (findN N key).2 then 1 else 0)), C := [] } := by
  intro v; unfold putN; rw [if_pos (by rw [h1, hw]; rfl)]
 have lt : ∀ j, (N.V.take j).length = (N.K.take j).length := fun j => by simp [h2]
 have ld : ∀ j, (N.V.drop j).length = (N.K.drop j).length := fun j => by simp [h2]
 have small : ∀ q, (∀ x ∈ N.K.take q, x < key) → ∀ m ∈ leafM (N.K.take q) (N.V.take q), ordM m < 2 * key + 1 := by
  intro q hq m hm;obtain ⟨v, e, hk, _⟩ := leafM_mem hm;have := hq _ hk;unfold ordM; rw [e]; simp; omega
 have great : ∀ q, (∀ x ∈ N.K.drop q, key < x) → ∀ m ∈ leafM (N.K.drop q) (N.V.drop q), 2 * key + 1 < ordM m := by
  intro q hq m hm;obtain ⟨v, e, hk, _⟩ := leafM_mem hm;have := hq _ hk;unfold ordM; rw [e]; simp; omega
 have put3 : ∀ q d v, leafM (N.K.take q ++ [key] ++ N.K.drop d) (N.V.take q ++ [v] ++ N.V.drop d) = leafM (N.K.take q) (N.V.take q) ++ (key, some v) :: leafM (N.K.drop d) (N.V.drop d) := by
  intro q d v;rw [List.append_assoc, List.append_assoc, leafM_append _ _ _ _ (lt q)]
  rfl
 obtain ⟨q, hq⟩ := findL key N.K 0 hr
 rcases hq with ⟨a, b, c, d, e⟩ | ⟨a, b, d, e⟩
 ·have hq2 : findN N key = (q, true) := by rw [hf, a]; simp
  have hv : q < N.V.length := by omega
  refine ⟨q, leafM (N.K.take q) (N.V.take q), leafM (N.K.drop (q + 1)) (N.V.drop (q + 1)), small q d, great (q + 1) e, .inl ⟨N.V[q], hq2, b, List.getElem?_eq_getElem hv, ?_, ?_, ?_⟩⟩
  ·rw [h4]
   have ek : N.K = N.K.take q ++ (key :: N.K.drop (q + 1)) := by
    obtain ⟨hb, hc⟩ := List.getElem?_eq_some_iff.1 c;rw [← hc, ← List.drop_eq_getElem_cons hb, List.take_append_drop]
   have ev : N.V = N.V.take q ++ (N.V[q] :: N.V.drop (q + 1)) := by
    rw [← List.drop_eq_getElem_cons hv, List.take_append_drop]
   have := leafM_append (N.K.take q) (N.V.take q) (key :: N.K.drop (q + 1)) (N.V[q] :: N.V.drop (q + 1)) (lt q);rw [← ek, ← ev] at this;rw [this]; rfl
  ·intro v
   rw [hput v, hq2];refine ⟨rfl, by simp [h2], rfl, ?_, rfl⟩;simp only [if_true];exact (put3 q (q + 1) v).symm
  ·refine ⟨rfl, by simp [withoutN, h2], rfl, ?_, rfl⟩
   show _ = leafM (N.K.take q ++ N.K.drop (q + 1)) (N.V.take q ++ N.V.drop (q + 1))
   rw [leafM_append _ _ _ _ (lt q)]
 ·have hq2 : findN N key = (q, false) := by rw [hf, a]; simp
  refine ⟨q, leafM (N.K.take q) (N.V.take q), leafM (N.K.drop q) (N.V.drop q), small q d, great q e, .inr ⟨hq2, ?_, ?_⟩⟩
  ·rw [h4, ← leafM_append _ _ _ _ (lt q), List.take_append_drop, List.take_append_drop]
  ·intro v
   rw [hput v, hq2];refine ⟨rfl, by simp [h2], rfl, ?_, rfl⟩;simp only [Bool.false_eq_true, if_false, Nat.add_zero];exact (put3 q q v).symm
structure Frame where
 page : Int
 N : Nod
 KA : List Int
 KB : List Int
 A : List Kid
 B : List Kid
structure FrameOk (R : Int → Option Nod) (h : Nat) (f : Frame) : Prop where
 a : f.A.length = f.KA.length
 b : f.B.length = f.KB.length
 lf : f.N.leaf = false
 v : f.N.V = []
 k : f.N.K = f.KA ++ f.KB
 c : ∃ c, f.N.C = kP f.A ++ [c] ++ kP f.B
 ka : ∀ q ∈ f.A, IsT R h q.p q.F q.P
 kb : ∀ q ∈ f.B, IsT R h q.p q.F q.P
 k0 : f.N.K ≠ []
 r : rightN f.N = true
 ok : NodOk f.N
def Ctx (R : Int → Option Nod) : List Frame → Nat → List Mk → List Mk → List Int → Prop
 | [], _, FL, FR, PC => FL = [] ∧ FR = [] ∧ PC = []
 | f :: fs, h, FL, FR, PC => FrameOk R h f ∧ ∃ FL' FR' PC', Ctx R fs (h + 1) FL' FR' PC' ∧ FL = FL' ++ interL f.KA f.A ∧ FR = interR f.KB f.B ++ FR' ∧ PC = f.page :: (kPs f.A ++ kPs f.B ++ PC')
theorem FrameOk.congr {R R' : Int → Option Nod} {h : Nat} {f : Frame} (hf : FrameOk R h f) (hr : ∀ p ∈ kPs f.A ++ kPs f.B, R' p = R p) : FrameOk R' h f :=
 { hf with
  ka := fun q hq => IsT_congr (hf.ka q hq) fun p hp => hr p (List.mem_append_left _ (mem_kPs.2 ⟨q, hq, hp⟩))
  kb := fun q hq => IsT_congr (hf.kb q hq) fun p hp => hr p (List.mem_append_right _ (mem_kPs.2 ⟨q, hq, hp⟩)) }
theorem Ctx_congr {R R' : Int → Option Nod} : ∀ (fs : List Frame) {h : Nat} {FL FR : List Mk} {PC : List Int}, Ctx R fs h FL FR PC → (∀ p ∈ PC, R' p = R p) → Ctx R' fs h FL FR PC := by
 intro fs
 induction fs with
 | nil => intro h FL FR PC hc _; exact hc
 | cons f fs ih =>
  intro h FL FR PC hc hr;obtain ⟨h1, FL', FR', PC', h2, h3, h4, h5⟩ := hc;exact ⟨h1.congr fun p hp => hr p (by rw [h5]; exact List.mem_cons_of_mem _ (List.mem_append_left _ hp)), FL', FR', PC', ih h2 (fun p hp => hr p (by rw [h5]; exact List.mem_cons_of_mem _ (List.mem_append_right _ hp))), h3, h4, h5⟩
theorem ctx_down {R : Int → Option Nod} (hR : ∀ p M, R p = some M → rightN M = true ∧ NodOk M) {fs : List Frame} {h : Nat} {FL FR F : List Mk} {PC PM : List Int} {p : Int} {M : Nod} (hc : Ctx R fs (h + 1) FL FR PC) (hp : R p = some M) (h0 : M.K ≠ []) (ht : NodT R (h + 1) M F PM) (hs : SortM F) (key : Int) :
  ∃ (f : Frame) (q : Kid), f.page = p ∧ f.N = M ∧ findN M key = (f.KA.length, true) ∧ M.C[f.KA.length]? = some q.p ∧ IsT R h q.p q.F q.P ∧
   Ctx R (f :: fs) h (FL ++ interL f.KA f.A) (interR f.KB f.B ++ FR) (p :: (kPs f.A ++ kPs f.B ++ PC)) ∧ F = interL f.KA f.A ++ q.F ++ interR f.KB f.B ∧
   (∀ m ∈ interL f.KA f.A, ordM m < 2 * key + 1) ∧ (∀ m ∈ interR f.KB f.B, 2 * key + 1 < ordM m) ∧ PM = kPs f.A ++ q.P ++ kPs f.B := by
 have hw := whole_of ht;have hr := rise_of_sort ht hs;obtain ⟨h1, h2, Q, h3, h4, h5, h6, h7⟩ := NodT_succ.1 ht;obtain ⟨i, f1, f2, f3, f4⟩ := findB key M.K 0 hr;have hf : findN M key = (i, true) := by unfold findN; rw [if_pos hw, h1, f1]; simp
 have hiQ : i < Q.length := by omega
 have eQ : Q = Q.take i ++ [Q[i]] ++ Q.drop (i + 1) := by
  rw [List.append_assoc, List.singleton_append, ← List.drop_eq_getElem_cons hiQ, List.take_append_drop]
 have la : (Q.take i).length = (M.K.take i).length := by simp; omega
 have lb : (Q.drop (i + 1)).length = (M.K.drop i).length := by simp; omega
 have li : (M.K.take i).length = i := by simp; omega
 have eF : F = interL (M.K.take i) (Q.take i) ++ Q[i].F ++ interR (M.K.drop i) (Q.drop (i + 1)) := by
  have := interM_mid (M.K.take i) [] (M.K.drop i) (Q.take i) [Q[i]] (Q.drop (i + 1)) la rfl lb;rw [List.append_nil, List.take_append_drop, ← eQ] at this;rw [h6, this, interM_one]
 rw [eF, List.append_assoc] at hs;obtain ⟨s1, s2, s3⟩ := SortM_append.1 hs;obtain ⟨s4, s5, s6⟩ := SortM_append.1 s2;obtain ⟨hMr, hMo⟩ := hR p M hp;refine ⟨⟨p, M, M.K.take i, M.K.drop i, Q.take i, Q.drop (i + 1)⟩, Q[i], rfl, rfl, by rw [li]; exact hf, ?_, h5 _ (List.getElem_mem hiQ), ⟨⟨la, lb, h1, h2, (List.take_append_drop i M.K).symm, ⟨Q[i].p, ?_⟩, fun q hq => h5 q (List.mem_of_mem_take hq), fun q hq => h5 q (List.mem_of_mem_drop hq), h0, hMr, hMo⟩, FL, FR, PC, hc, rfl, rfl, rfl⟩, eF, ?_, ?_, ?_⟩
 ·show M.C[(M.K.take i).length]? = _
  rw [li, h3]; unfold kP; rw [List.getElem?_map, List.getElem?_eq_getElem hiQ]; rfl
 ·show M.C = kP (Q.take i) ++ [Q[i].p] ++ kP (Q.drop (i + 1))
  rw [h3]
  conv => lhs; rw [eQ]
  rw [kP_append, kP_append]; rfl
 ·intro m hm
  show ordM m < 2 * key + 1
  rcases hk : (M.K.take i).getLast? with _ | k
  ·have : M.K.take i = [] := List.getLast?_eq_none_iff.1 hk
   have e : interL (M.K.take i) (Q.take i) = [] := by rw [this]; rfl
   have hm' : m ∈ interL (M.K.take i) (Q.take i) := hm;rw [e] at hm'; cases hm'
  ·have hkm := List.mem_of_getLast? hk
   have hle := f3 k hkm;obtain ⟨X, hX⟩ := List.getLast?_eq_some_iff.1 hk;have hXl : X.length + 1 = i := by have e := congrArg List.length hX; rw [li, List.length_append] at e; simpa using e.symm
   obtain ⟨Y, q, hY⟩ : ∃ Y q, Q.take i = Y ++ [q] := by
    cases hq : (Q.take i).reverse with
    | nil => have e := congrArg List.length hq; rw [List.length_reverse, la, li, List.length_nil] at e; omega
    | cons q Y => exact ⟨Y.reverse, q, by simpa using congrArg List.reverse hq⟩
   have hYl : Y.length = X.length := by have e := congrArg List.length hY; rw [la, li, List.length_append, List.length_singleton] at e; omega
   have eL : interL (M.K.take i) (Q.take i) = interL X Y ++ (q.F ++ [(k, none)]) := by
    rw [hX, hY];unfold interL;rw [List.zipWith_append hYl.symm];simp
   have hm' : m ∈ interL (M.K.take i) (Q.take i) := hm;rw [eL] at hm' s1;rw [← List.append_assoc] at hm' s1;obtain ⟨_, _, t3⟩ := SortM_append.1 s1
   rcases List.mem_append.1 hm' with hx | hx
   ·have := t3 m hx (k, none) (by simp)
    rw [ord_sep] at this; omega
   ·simp only [List.mem_singleton] at hx
    subst hx; rw [ord_sep]; omega
 ·intro m hm
  show 2 * key + 1 < ordM m
  have hm' : m ∈ interR (M.K.drop i) (Q.drop (i + 1)) := hm;clear hm
  cases hkk : M.K.drop i with
  | nil => rw [hkk] at hm'; cases hm'
  | cons k Kr =>
   have hlt := f4 k (by rw [hkk]; simp);rw [hkk] at hm' s5 lb
   cases hqq : Q.drop (i + 1) with
   | nil => rw [hqq] at lb; simp at lb
   | cons q Qr =>
    rw [hqq, interR_cons] at hm' s5
    rcases List.mem_cons.1 hm' with rfl | hx
    ·rw [ord_sep]; omega
    ·have := (SortM_cons.1 s5).1 m hx
     rw [ord_sep] at this; omega
 ·show PM = kPs (Q.take i) ++ Q[i].P ++ kPs (Q.drop (i + 1))
  rw [h7]
  conv => lhs; rw [eQ]
  rw [kPs_append, kPs_append, kPs_cons]; simp [kPs]
theorem frame_up {R : Int → Option Nod} {h : Nat} {f : Frame} (hf : FrameOk R h f) (KM : List Int) (QM : List Kid) (hl : QM.length = KM.length + 1) (hq : ∀ q ∈ QM, IsT R h q.p q.F q.P) (N : Nod) (h1 : N.leaf = false) (h2 : N.V = []) (h3 : N.K = f.KA ++ KM ++ f.KB) (h4 : N.C = kP f.A ++ kP QM ++ kP f.B) :
  NodT R (h + 1) N (interL f.KA f.A ++ interM KM QM ++ interR f.KB f.B) (kPs f.A ++ kPs QM ++ kPs f.B) := by
 refine NodT_succ.2 ⟨h1, h2, f.A ++ QM ++ f.B, ?_, ?_, ?_, ?_, ?_⟩
 ·rw [h4, kP_append, kP_append]
 ·rw [h3]; simp only [List.length_append]; have := hf.a; have := hf.b; omega
 ·intro q hm
  rcases List.mem_append.1 hm with hm | hm
  ·rcases List.mem_append.1 hm with hm | hm
   ·exact hf.ka q hm
   ·exact hq q hm
  ·exact hf.kb q hm
 ·rw [h3, interM_mid _ _ _ _ _ _ hf.a hl hf.b]
 ·rw [kPs_append, kPs_append]
theorem take_ne {α : Type} {l : List α} {c : Nat} (h1 : 1 ≤ c) (h2 : 1 ≤ l.length) : l.take c ≠ [] := by
 intro e;have e2 := congrArg List.length e;rw [List.length_take, List.length_nil] at e2;omega
theorem drop_ne {α : Type} {l : List α} {c : Nat} (h : c < l.length) : l.drop c ≠ [] := by
 intro e;have e2 := congrArg List.length e;rw [List.length_drop, List.length_nil] at e2;omega
theorem bytesV_take_succ (V : List ByteArray) (k : Nat) (h : k < V.length) : bytesV (V.take (k + 1)) = bytesV (V.take k) + V[k].size := by
 rw [List.take_add_one, bytesV_append, List.getElem?_eq_getElem h];simp [bytesV]
theorem ahead_step (n : Nod) (k : Nat) (hw : wholeB n = true) (hk : k < n.K.length) : sizeN (aheadN n (k + 1)) = sizeN (aheadN n k) + shareN n k := by
 cases hl : n.leaf with
 | true =>
  have hv := (wholeB_leaf hl).1 hw;have := bytesV_take_succ n.V k (by omega);unfold aheadN shareN sizeN;simp only [hl, if_true];rw [this, List.length_take, List.length_take, List.getD_eq_getElem?_getD, List.getElem?_eq_getElem (by omega)];simp only [Option.getD_some];omega
 | false =>
  have hv := (wholeB_branch hl).1 hw;unfold aheadN shareN sizeN;simp only [hl, Bool.false_eq_true, if_false];rw [List.length_take, List.length_take, List.length_take, List.length_take];omega
theorem share_small (n : Nod) (k : Nat) (hv : ∀ v ∈ n.V, v.size ≤ 40) : shareN n k ≤ 49 := by
 unfold shareN
 split
 ·rw [List.getD_eq_getElem?_getD]
  cases h : n.V[k]? with
  | none => simp
  | some v => have := hv v (List.mem_of_getElem? h); simp; omega
 ·omega
theorem parts_size (n : Nod) (k : Nat) (hw : wholeB n = true) (hk : k < n.K.length) : sizeN (aheadN n k) + sizeN (behindN n k) ≤ sizeN n + 1 := by
 cases hl : n.leaf with
 | true =>
  have hv := (wholeB_leaf hl).1 hw;have := bytesV_split n.V k;unfold aheadN behindN sizeN;simp only [hl, if_true];rw [List.length_take, List.length_drop];omega
 | false =>
  have hv := (wholeB_branch hl).1 hw;unfold aheadN behindN sizeN;simp only [hl, Bool.false_eq_true, if_false];rw [List.length_take, List.length_take, List.length_drop, List.length_drop];omega
theorem cutFrom_spec (n : Nod) (half : Nat) (hw : wholeB n = true) (hv : ∀ v ∈ n.V, v.size ≤ 40) : ∀ f k, k + f ≤ n.K.length → ∀ c, cutFrom n half f k (sizeN (aheadN n k)) = c → (half ≤ sizeN (aheadN n c) ∨ c = k + f) ∧ (c = k ∨ sizeN (aheadN n c) < half + 49) := by
 intro f
 induction f with
 | zero => intro k hk c hc; unfold cutFrom at hc; subst hc; exact ⟨.inr rfl, .inl rfl⟩
 | succ f ih =>
  intro k hk c hc;unfold cutFrom at hc
  by_cases h : half ≤ sizeN (aheadN n k)
  ·rw [if_pos h] at hc; subst hc; exact ⟨.inl h, .inl rfl⟩
  ·rw [if_neg h, ← ahead_step n k hw (by omega)] at hc
   have := ih (k + 1) (by omega) c hc;refine ⟨this.1.imp id (by omega), .inr ?_⟩
   rcases this.2 with rfl | hx
   ·have h1 := ahead_step n k hw (by omega)
    have h2 := share_small n k hv;omega
   ·exact hx
theorem bytesV_one (l : List ByteArray) (m : Nat) (h : ∀ v ∈ l, v.size ≤ m) (h1 : l.length ≤ 1) : bytesV l ≤ m := by
 have := bytesV_le l m h;have h2 : l.length * m ≤ 1 * m := Nat.mul_le_mul_right _ h1;omega
theorem cut_sizes (n : Nod) (hw : wholeB n = true) (hv : ∀ v ∈ n.V, v.size ≤ 40) (hl : leastN n.leaf ≤ n.K.length) (hz : sizeN n ≤ 320) : sizeN (aheadN n (cutN n)) ≤ 240 ∧ sizeN (behindN n (cutN n)) ≤ 240 := by
 have hc := cutN_le n;have hm : mostN n = n.K.length - leastN n.leaf + 1 := rfl;have h2 : 2 ≤ leastN n.leaf := by unfold leastN; split <;> omega
 obtain ⟨s1, s2⟩ := cutFrom_spec n (sizeN n / 2) hw hv (mostN n - 1) 1 (by omega) (cutN n) rfl;have hp := parts_size n (cutN n) hw (by omega);constructor
 ·rcases s2 with h | h
  ·rw [h]
   have ha := ahead_step n 0 hw (by omega);have hs := share_small n 0 hv
   have h0 : sizeN (aheadN n 0) ≤ 3 := by
    unfold aheadN sizeN
    split
    ·simp [bytesV]
    ·simp only [Bool.false_eq_true, if_false, List.length_take]; simp; omega
   simp only [Nat.zero_add] at ha;omega
  ·omega
 ·rcases s1 with h | h
  ·omega
  ·have hB : (behindN n (cutN n)).K.length ≤ 1 := by
    unfold behindN leastN at *
    cases hlf : n.leaf with
    | true => rw [hlf] at hl hm; simp at hl hm ⊢; omega
    | false => rw [hlf] at hl hm; simp at hl hm ⊢; omega
   cases hlf : n.leaf with
   | true =>
    have hwl := (wholeB_leaf hlf).1 hw;have e : behindN n (cutN n) = { leaf := true, K := n.K.drop (cutN n), V := n.V.drop (cutN n), C := [] } := by unfold behindN; rw [hlf]; rfl
    rw [e] at hB ⊢;have hb := bytesV_one (n.V.drop (cutN n)) 40 (fun v hx => hv v (List.mem_of_mem_drop hx)) (by simp at hB ⊢; omega);unfold sizeN;simp only [if_true];simp only at hB;omega
   | false =>
    have hwl := (wholeB_branch hlf).1 hw;have e : behindN n (cutN n) = { leaf := false, K := n.K.drop (cutN n + 1), V := [], C := n.C.drop (cutN n + 1) } := by unfold behindN; rw [hlf]; rfl
    rw [e] at hB ⊢;unfold sizeN;simp only [Bool.false_eq_true, if_false];simp only [List.length_drop] at hB ⊢;omega
theorem sort_sep {X Y Z : List Mk} {k : Int} {v : ByteArray} (hs : SortM (X ++ Y ++ (k, some v) :: Z)) (hY : Y ≠ []) (he : ∀ m ∈ Y, m.2.isSome = true) : SortM (X ++ (Y ++ (k, none) :: (k, some v) :: Z)) := by
 obtain ⟨s1, s2, s3⟩ := SortM_append.1 hs
 have hy : ∀ a ∈ Y, ordM a < 2 * k := by
  intro a ha;have := s3 a (by simp [ha]) (k, some v) (by simp);rw [ord_ent] at this;have h1 := he a ha;unfold ordM at this ⊢;rw [h1] at this ⊢;simp at this ⊢;omega
 have hx : ∀ a ∈ X, ordM a < 2 * k := by
  intro a ha;obtain ⟨y, hm⟩ := List.exists_mem_of_ne_nil Y hY;have h1 := (SortM_append.1 s1).2.2 a ha y hm;have h2 := hy y hm;omega
 rw [← List.append_assoc];refine SortM_append.2 ⟨s1, SortM_cons.2 ⟨fun b hb => ?_, s2⟩, fun a ha b hb => ?_⟩
 ·rw [ord_sep]
  rcases List.mem_cons.1 hb with rfl | hb
  ·rw [ord_ent]; omega
  ·have := (SortM_cons.1 s2).1 b hb
   rw [ord_ent] at this; omega
 ·have hak : ordM a < 2 * k := by
   rcases List.mem_append.1 ha with h | h
   ·exact hx a h
   ·exact hy a h
  rcases List.mem_cons.1 hb with rfl | hb
  ·rw [ord_sep]; exact hak
  ·rcases List.mem_cons.1 hb with rfl | hb
   ·rw [ord_ent]; omega
   ·exact s3 a ha b (by simp [hb])
theorem split_T {R : Int → Option Nod} {h : Nat} {N : Nod} {F : List Mk} {P : List Int} (ht : NodT R h N F P) (hl : leastN N.leaf ≤ N.K.length) :
  ∃ mid FA FB PA PB, N.K[cutN N]? = some mid ∧ NodT R h (aheadN N (cutN N)) FA PA ∧ NodT R h (behindN N (cutN N)) FB PB ∧ (aheadN N (cutN N)).K ≠ [] ∧ (behindN N (cutN N)).K ≠ [] ∧ P = PA ++ PB ∧
   entsM (FA ++ (mid, none) :: FB) = entsM F ∧ ∀ X Y, SortM (X ++ F ++ Y) → SortM (X ++ (FA ++ (mid, none) :: FB) ++ Y) := by
 have hc := cutN_le N;have hm : mostN N = N.K.length - leastN N.leaf + 1 := rfl;have h2 : 2 ≤ leastN N.leaf ∧ (N.leaf = false → 3 ≤ leastN N.leaf) := by unfold leastN; cases N.leaf <;> simp
 have hcl : cutN N < N.K.length := by omega
 generalize hcc : cutN N = c at *
 cases h with
 | zero =>
  obtain ⟨h1, h3, h4, h5, h6⟩ := ht;have eA : aheadN N c = { leaf := true, K := N.K.take c, V := N.V.take c, C := [] } := by unfold aheadN; rw [h1]; rfl
  have eB : behindN N c = { leaf := true, K := N.K.drop c, V := N.V.drop c, C := [] } := by unfold behindN; rw [h1]; rfl
  rw [eA, eB];have lt : (N.V.take c).length = (N.K.take c).length := by simp [h3]
  have eF : F = leafM (N.K.take c) (N.V.take c) ++ leafM (N.K.drop c) (N.V.drop c) := by
   rw [h5, ← leafM_append _ _ _ _ lt, List.take_append_drop, List.take_append_drop]
  have hv : c < N.V.length := by omega
  have eD : leafM (N.K.drop c) (N.V.drop c) = (N.K[c], some N.V[c]) :: leafM (N.K.drop (c + 1)) (N.V.drop (c + 1)) := by
   rw [List.drop_eq_getElem_cons hcl, List.drop_eq_getElem_cons hv]; rfl
  refine ⟨N.K[c], leafM (N.K.take c) (N.V.take c), leafM (N.K.drop c) (N.V.drop c), [], [], List.getElem?_eq_getElem hcl, ⟨rfl, lt, rfl, rfl, rfl⟩, ⟨rfl, by simp [h3], rfl, rfl, rfl⟩, ?_, ?_, h6, ?_, fun X Y hs => ?_⟩
  ·exact take_ne hc.1 (by omega)
  ·exact drop_ne hcl
  ·rw [eF, entsM_append, entsM_append, entsM_sep]
  ·rw [eF, eD, List.append_assoc, List.append_assoc, ← List.append_assoc X] at hs
   have hne : leafM (N.K.take c) (N.V.take c) ≠ [] := by
    intro e;have := congrArg List.length (leafM_keys _ _ lt);rw [e] at this; simp at this; omega
   have := sort_sep (X := X) (Y := leafM (N.K.take c) (N.V.take c)) (Z := leafM (N.K.drop (c + 1)) (N.V.drop (c + 1)) ++ Y) hs hne (fun m hm => by obtain ⟨v, e, _⟩ := leafM_mem hm; rw [e]; rfl);rw [eD]
   simpa using this
 | succ h =>
  obtain ⟨h1, h3, Q, h4, h5, h6, h7, h8⟩ := NodT_succ.1 ht;have h33 := h2.2 h1;have eA : aheadN N c = { leaf := false, K := N.K.take c, V := [], C := N.C.take (c + 1) } := by unfold aheadN; rw [h1]; rfl
  have eB : behindN N c = { leaf := false, K := N.K.drop (c + 1), V := [], C := N.C.drop (c + 1) } := by unfold behindN; rw [h1]; rfl
  rw [eA, eB];have lA : (Q.take (c + 1)).length = (N.K.take c).length + 1 := by simp; omega
  have lB : (Q.drop (c + 1)).length = (N.K.drop (c + 1)).length + 1 := by simp; omega
  have eF : interM N.K Q = interM (N.K.take c) (Q.take (c + 1)) ++ (N.K[c], none) :: interM (N.K.drop (c + 1)) (Q.drop (c + 1)) := by
   have eK : N.K = (N.K.take c ++ [N.K[c]]) ++ N.K.drop (c + 1) := by
    rw [List.append_assoc, List.singleton_append, ← List.drop_eq_getElem_cons hcl, List.take_append_drop]
   have eQ : Q = Q.take (c + 1) ++ Q.drop (c + 1) := (List.take_append_drop _ _).symm;have hQd : Q.drop (c + 1) ≠ [] := by intro e; have := congrArg List.length e; simp at this; omega
   have e1 := interM_L (N.K.take c ++ [N.K[c]]) (Q.take (c + 1)) (N.K.drop (c + 1)) (Q.drop (c + 1)) (by rw [lA, List.length_append, List.length_singleton]) hQd;rw [← eK, ← eQ] at e1;rw [e1]
   obtain ⟨X, q, hX⟩ : ∃ X q, Q.take (c + 1) = X ++ [q] := by
    cases hq : (Q.take (c + 1)).reverse with
    | nil => have e := congrArg List.length hq; rw [List.length_reverse, lA, List.length_nil] at e; omega
    | cons q Y => exact ⟨Y.reverse, q, by simpa using congrArg List.reverse hq⟩
   have hXl : X.length = (N.K.take c).length := by have e := congrArg List.length hX; rw [lA, List.length_append, List.length_singleton] at e; omega
   rw [hX];have e2 := interM_L (N.K.take c) X [] [q] hXl (by simp);rw [List.append_nil] at e2;rw [e2, interM_one];unfold interL;rw [List.zipWith_append (by omega)];simp
  refine ⟨N.K[c], interM (N.K.take c) (Q.take (c + 1)), interM (N.K.drop (c + 1)) (Q.drop (c + 1)), kPs (Q.take (c + 1)), kPs (Q.drop (c + 1)), List.getElem?_eq_getElem hcl, ?_, ?_, ?_, ?_, ?_, ?_, fun X Y hs => ?_⟩
  ·exact NodT_succ.2 ⟨rfl, rfl, Q.take (c + 1), by show N.C.take (c + 1) = _; rw [h4]; simp [kP, List.map_take], lA, fun q hq => h6 q (List.mem_of_mem_take hq), rfl, rfl⟩
  ·exact NodT_succ.2 ⟨rfl, rfl, Q.drop (c + 1), by show N.C.drop (c + 1) = _; rw [h4]; simp [kP, List.map_drop], lB, fun q hq => h6 q (List.mem_of_mem_drop hq), rfl, rfl⟩
  ·exact take_ne hc.1 (by omega)
  ·exact drop_ne (by omega)
  ·rw [h8, ← kPs_append, List.take_append_drop]
  ·rw [h7, eF]
  ·rw [h7, eF] at hs; exact hs
def bothN (a : Nod) (mid : Int) (b : Nod) : Nod := { leaf := a.leaf, K := a.K ++ (if a.leaf then [] else [mid]) ++ b.K, V := a.V ++ b.V, C := a.C ++ b.C }
theorem both_T {R : Int → Option Nod} {h : Nat} {A B : Nod} {FA FB : List Mk} {PA PB : List Int} (ha : NodT R h A FA PA) (hb : NodT R h B FB PB) (mid : Int) :
  ∃ F, NodT R h (bothN A mid B) F (PA ++ PB) ∧ entsM F = entsM FA ++ entsM FB ∧ ∀ X Y, SortM (X ++ (FA ++ (mid, none) :: FB) ++ Y) → SortM (X ++ F ++ Y) := by
 cases h with
 | zero =>
  obtain ⟨a1, a2, a3, a4, a5⟩ := ha;obtain ⟨b1, b2, b3, b4, b5⟩ := hb;refine ⟨FA ++ FB, ⟨a1, by simp [bothN, a1, a2, b2], by simp [bothN, a3, b3], ?_, by rw [a5, b5]; rfl⟩, entsM_append _ _, fun X Y hs => ?_⟩
  ·unfold bothN; rw [a1]; simp only [if_true, List.append_nil]
   rw [leafM_append _ _ _ _ a2, a4, b4]
  ·refine List.Pairwise.sublist ?_ hs
   exact ((List.Sublist.refl X).append ((List.Sublist.refl FA).append (List.sublist_cons_self _ _))).append (List.Sublist.refl Y)
 | succ h =>
  obtain ⟨a1, a2, Q, a3, a4, a5, a6, a7⟩ := NodT_succ.1 ha;obtain ⟨b1, b2, Q', b3, b4, b5, b6, b7⟩ := NodT_succ.1 hb
  have eF : interM (A.K ++ [mid] ++ B.K) (Q ++ Q') = FA ++ (mid, none) :: FB := by
   have e1 := interM_L (A.K ++ [mid]) Q B.K Q' (by rw [a4]; simp) (by intro e; rw [e] at b4; simp at b4);rw [e1, a6, b6]
   obtain ⟨X, q, hX⟩ : ∃ X q, Q = X ++ [q] := by
    cases hq : Q.reverse with
    | nil => have e := congrArg List.length hq; rw [List.length_reverse, a4, List.length_nil] at e; omega
    | cons q Y => exact ⟨Y.reverse, q, by simpa using congrArg List.reverse hq⟩
   have hXl : X.length = A.K.length := by rw [hX] at a4; simpa using a4
   rw [hX];have e2 := interM_L A.K X [] [q] hXl (by simp);rw [List.append_nil] at e2;rw [e2, interM_one];unfold interL;rw [List.zipWith_append (by omega)];simp
  refine ⟨FA ++ (mid, none) :: FB, NodT_succ.2 ⟨a1, by simp [bothN, a2, b2], Q ++ Q', by simp [bothN, a3, b3, kP], by unfold bothN; rw [a1]; simp [a4, b4]; omega, fun q hq => ?_, ?_, by rw [a7, b7, kPs_append]⟩, by rw [entsM_append, entsM_sep], fun X Y hs => hs⟩
  ·rcases List.mem_append.1 hq with hx | hx
   ·exact a5 q hx
   ·exact b5 q hx
  ·unfold bothN; rw [a1]; simp only [Bool.false_eq_true, if_false]
   exact eF.symm
open Go.RowKit
structure Frm (F : Nat → Prop) (w w' : World) : Prop where
 os : w'.os = w.os
 tape : w'.tape = w.tape
 output : w'.output = w.output
 size : w.heap.size ≤ w'.heap.size
 block : ∀ k, k < w.heap.size → ¬ F k → w'.heap[k]? = w.heap[k]?
theorem Frm.refl (F : Nat → Prop) (w : World) : Frm F w w := ⟨rfl, rfl, rfl, Nat.le_refl _, fun _ _ _ => rfl⟩
theorem Frm.trans {F G : Nat → Prop} {a b c : World} (h : Frm F a b) (k : Frm G b c) (hG : ∀ i, G i → F i ∨ a.heap.size ≤ i) : Frm F a c :=
 ⟨k.os.trans h.os, k.tape.trans h.tape, k.output.trans h.output, Nat.le_trans h.size k.size, fun i hi hf => by
  rw [k.block i (Nat.lt_of_lt_of_le hi h.size) (fun hg => by rcases hG i hg with hx | hx; exact hf hx; omega)];exact h.block i hi hf⟩
theorem Frm.mono {F G : Nat → Prop} {a b : World} (h : Frm F a b) (hG : ∀ i, F i → G i) : Frm G a b :=
 ⟨h.os, h.tape, h.output, h.size, fun i hi hf => h.block i hi fun hx => hf (hG i hx)⟩
theorem Frm.of_below {F : Nat → Prop} {a b : World} (h : Below a.heap.size a b) : Frm F a b := ⟨h.os, h.tape, h.output, h.size, fun i hi _ => h.block i hi⟩
theorem Frm.below {F : Nat → Prop} {B : Nat} {a b : World} (h : Frm F a b) (hF : ∀ i, F i → B ≤ i) (hB : B ≤ a.heap.size) : Below B a b :=
 ⟨h.os, h.tape, h.output, h.size, fun i hi => h.block i (by omega) fun hx => by have := hF i hx; omega⟩
theorem Frm.drew {F : Nat → Prop} {a w : World} (h : Frm F a w) : Frm F a w.drew := ⟨h.os, h.tape, h.output, h.size, h.block⟩
theorem Frm.alloc {F : Nat → Prop} {a w : World} (h : Frm F a w) (o : Obj) : Frm F a (w.alloc o) :=
 h.trans (G := fun _ => False) (Frm.of_below (Br.alloc (Nat.le_refl _) o)) fun _ hx => hx.elim
theorem Frm.setCell {F : Nat → Prop} {a w : World} (h : Frm F a w) (p : Addr) (u : Value) (hp : F p.block ∨ a.heap.size ≤ p.block) : Frm F a (w.setCell p u) :=
 h.trans (G := fun i => i = p.block) ⟨rfl, rfl, rfl, by simp [World.setCell], fun k _ hk => Below.heap_setCell _ _ _ _ hk⟩ fun i hi => by subst hi; exact hp
theorem Frm.setObj {F : Nat → Prop} {a w : World} (h : Frm F a w) (r : Nat) (o : Obj) (hp : F r ∨ a.heap.size ≤ r) : Frm F a { w with heap := w.heap.setIfInBounds r o } :=
 h.trans (G := fun i => i = r) ⟨rfl, rfl, rfl, by simp, fun k _ hk => by
  show (w.heap.setIfInBounds r o)[k]? = _
  rw [Array.getElem?_setIfInBounds_ne (Ne.symm hk)]⟩ fun i hi => by subst hi; exact hp
theorem Frm.setRow {F : Nat → Prop} {a w : World} (h : Frm F a w) (g : Nat) (cs : Array Value) (hp : F g ∨ a.heap.size ≤ g) : Frm F a (w.setRow g cs) :=
 h.trans (G := fun i => i = g) ⟨rfl, rfl, rfl, by simp, fun k _ hk => setRow_other w g k cs hk⟩ fun i hi => by subst hi; exact hp
theorem Frm.grown {F : Nat → Prop} {a w w' : World} {row : Option Nat} (h : Frm F a w) (hg : w.grownBy w' row) (hr : ∀ k, row = some k → F k ∨ a.heap.size ≤ k) : Frm F a w' :=
 h.trans (G := fun i => row = some i) ⟨hg.os, hg.tape, hg.output, hg.size, fun k hk hne => hg.block k hk fun e => hne e.symm⟩ hr
def Ents (L : List (Nat × Value)) (es : Array MapEntry) : Prop := es.toList.map (fun e => (e.key, e.val)) = L.map (fun p => (Value.int .i64 (p.1 : Int), p.2))
def MapI (w : World) (m : Nat) (L : List (Nat × Value)) : Prop := ∃ es clock, w.heap[m]? = some (.map es clock) ∧ Ents L es
theorem MapI.lt {w : World} {m : Nat} {L : List (Nat × Value)} (h : MapI w m L) : m < w.heap.size := by
 obtain ⟨es, c, hb, _⟩ := h;exact (zl hb)
theorem MapI.kept {w w' : World} {m : Nat} {L : List (Nat × Value)} (h : MapI w m L) (e : w'.heap[m]? = w.heap[m]?) : MapI w' m L := by
 obtain ⟨es, c, hb, he⟩ := h;exact ⟨es, c, e.trans hb, he⟩
def d64 : TypeDesc := .int .i64
theorem findNow_no (n : Nat) : ∀ (l : List MapEntry) (L : List (Nat × Value)) (i : Nat), l.map (fun e => (e.key, e.val)) = L.map (fun p => (Value.int .i64 (p.1 : Int), p.2)) → (∀ p ∈ L, p.1 ≠ n) → Instr.findNow d64 (.int .i64 (n : Int)) l i = some none
 | [], _, _, _, _ => rfl
 | e :: l, [], _, h, _ => by simp at h
 | e :: l, p :: L, i, h, hn => by
  simp only [List.map_cons, List.cons.injEq, Prod.mk.injEq] at h;have hne : p.1 ≠ n := hn p (List.mem_cons_self ..)
  have hs : Instr.sameNow d64 (.int .i64 (n : Int)) e.key = some false := by
   rw [h.1.1];simp only [Instr.sameNow, d64, if_true]
   congr 1
   rw [beq_eq_false_iff_ne];intro hc;exact hne (by omega)
  simp only [Instr.findNow, hs];exact findNow_no n l L (i + 1) h.2 fun q hq => hn q (List.mem_cons_of_mem _ hq)
theorem findNow_yes (n : Nat) (v : Value) : ∀ (l : List MapEntry) (L : List (Nat × Value)) (i : Nat), l.map (fun e => (e.key, e.val)) = L.map (fun p => (Value.int .i64 (p.1 : Int), p.2)) → (L.map (·.1)).Nodup → (n, v) ∈ L → ∃ j, Instr.findNow d64 (.int .i64 (n : Int)) l i = some (some (j, v))
 | [], L, _, h, _, hm => by
  cases L with
  | nil => cases hm
  | cons p L => simp at h
 | e :: l, [], _, h, _, hm => by cases hm
 | e :: l, p :: L, i, h, hd, hm => by
  simp only [List.map_cons, List.cons.injEq, Prod.mk.injEq] at h;simp only [List.map_cons, List.nodup_cons] at hd
  by_cases hp : p.1 = n
  ·have hv : p.2 = v := by
    rcases List.mem_cons.1 hm with e1 | e1
    ·rw [← e1]
    ·exact absurd (List.mem_map.2 ⟨(n, v), e1, rfl⟩ : n ∈ L.map (·.1)) (hp ▸ hd.1)
   refine ⟨i, ?_⟩
   have hs : Instr.sameNow d64 (.int .i64 (n : Int)) e.key = some true := by
    rw [h.1.1, hp];simp [Instr.sameNow, d64]
   simp only [Instr.findNow, hs, h.1.2, hv]
  ·have hs : Instr.sameNow d64 (.int .i64 (n : Int)) e.key = some false := by
    rw [h.1.1];simp only [Instr.sameNow, d64, if_true]
    congr 1
    rw [beq_eq_false_iff_ne];intro hc;exact hp (by omega)
   obtain ⟨j, hj⟩ := findNow_yes n v l L (i + 1) h.2 hd.2 (by
    rcases List.mem_cons.1 hm with e1 | e1
    ·exact absurd (by rw [← e1]) hp
    ·exact e1)
   exact ⟨j, by simp only [Instr.findNow, hs]; exact hj⟩
section
variable {P : Program} {w : World} {m : Nat} {L : List (Nat × Value)} {t k e : TypeId} (ht : P.underlying t = some (.map k e)) (hk : P.underlying k = some (.int .i64))
include ht hk
theorem lookup_no (h : MapI w m L) (n : Nat) (hn : ∀ p ∈ L, p.1 ≠ n) (z : Value) (hz : (zeroValue e).run P w = .ok z w) (ok : Bool) :
  (Instr.lookup t (.map (some m)) (.int .i64 (n : Int)) ok).run P w = .ok (if ok then .tuple #[z, .bool false] else z) w := by
 obtain ⟨es, c, hb, he⟩ := h;have h1 := MapKept.run_getObj_map (P := P) hb;have h2 := MapKept.run_checkKey (P := P) (w := w) hk (k := .int .i64 (n : Int)) (by first | rfl | trivial | exact ⟨_, rfl⟩) es.isEmpty 9999;have h3 := MapKept.run_findKey (P := P) (w := w) hk (findNow_no n es.toList L 0 he hn)
 cases ok <;> simp [Instr.lookup, run_underlying ht, h1, h2, h3, hz]
theorem lookup_yes (h : MapI w m L) (hd : (L.map (·.1)).Nodup) (n : Nat) (v : Value) (hm : (n, v) ∈ L) (ok : Bool) :
  (Instr.lookup t (.map (some m)) (.int .i64 (n : Int)) ok).run P w = .ok (if ok then .tuple #[v, .bool true] else v) w := by
 obtain ⟨es, c, hb, he⟩ := h;have h1 := MapKept.run_getObj_map (P := P) hb;have h2 := MapKept.run_checkKey (P := P) (w := w) hk (k := .int .i64 (n : Int)) (by first | rfl | trivial | exact ⟨_, rfl⟩) es.isEmpty 9999;obtain ⟨j, hj⟩ := findNow_yes n v es.toList L 0 he hd hm;have h3 := MapKept.run_findKey (P := P) (w := w) hk hj
 cases ok <;> simp [Instr.lookup, run_underlying ht, h1, h2, h3]
theorem update_new (h : MapI w m L) (n : Nat) (hn : ∀ p ∈ L, p.1 ≠ n) (v : Value) :
  ∃ o, (Instr.mapUpdate t (.map (some m)) (.int .i64 (n : Int)) v).run P w = .ok () { w with heap := w.heap.setIfInBounds m o } ∧ MapI { w with heap := w.heap.setIfInBounds m o } m (L ++ [(n, v)]) := by
 obtain ⟨es, c, hb, he⟩ := h;have h1 := MapKept.run_getObj_map (P := P) hb;have h2 := MapKept.run_checkKey (P := P) (w := w) hk (k := .int .i64 (n : Int)) (by first | rfl | trivial | exact ⟨_, rfl⟩) false 9999;have h3 := MapKept.run_findKey (P := P) (w := w) hk (findNow_no n es.toList L 0 he hn);have h4 := MapKept.run_setObj_map (P := P) (.map (es.push { key := .int .i64 (n : Int), val := v, born := c }) (c + 1)) hb;refine ⟨_, by simp [Instr.mapUpdate, run_underlying ht, h1, h2, h3, h4]; rfl, ?_⟩;refine ⟨_, _, (MapKept.heap_set hb).1, ?_⟩;unfold Ents at *
 rw [Array.toList_push, List.map_append, he, List.map_append]
 rfl
omit hk in
theorem clear_all (h : MapI w m L) (ty : TypeId) :
  ∃ o, (Builtin.clear_ #[t] ty #[.map (some m)]).run P w = .ok (.tuple #[]) { w with heap := w.heap.setIfInBounds m o } ∧ MapI { w with heap := w.heap.setIfInBounds m o } m [] := by
 obtain ⟨es, c, hb, he⟩ := h;have h1 := MapKept.run_getObj_map (P := P) hb;have h4 := MapKept.run_setObj_map (P := P) (.map #[] c) hb;refine ⟨_, by simp [Builtin.clear_, run_underlying ht, h1, h4]; rfl, ?_⟩;exact ⟨_, _, (MapKept.heap_set hb).1, rfl⟩
end
theorem append_one (P : Program) (w : World) (t ty e : TypeId) (i : TypeInfo) (z : Value) (ht : P.underlying t = some (.slice e)) (hi : P.info? e = some i) (hz : i.zero = some z)
  (hsize : i.size = 1) (hby : i.bytes = 8) (hzs : z.cells.size = 1)
  (v : Value) (n : Nat) (xs : List Value) (hown : w.ownsRow 0 e 1 v n xs) (b : Nat) (u : Value) (hu : w.cell? ⟨b, 0, none⟩ = some u) (h1 : u.oneCell' = true) (hn : n ≤ 100000) :
  ∃ v' w' k, (Builtin.append_ #[t, t] ty #[v, .slice (some ⟨b, 0, none⟩) 1 1]).run P w = .ok v' w' ∧ w'.ownsRow 0 e 1 v' (n + 1) (xs ++ [u]) ∧ w.grownBy w' v.ownBlock ∧ v'.ownBlock = some k ∧ (v.ownBlock = some k ∨ k = w.heap.size) := by
 have hnews : ∀ j x, [u][j]? = some x → w.cell? ((⟨b, 0, none⟩ : Addr).add j) = some x := by
  intro j x hj;rw [addr_add]
  cases j with
  | zero =>
   rw [hu]
   simpa using hj
  | succ j => simp at hj
 obtain ⟨v', w', hr, ho, hg, _⟩ := run_append_own (P := P) w 0 t ty e i z 1 8 ht hi hz hsize hby hzs (by decide) v n xs hown ⟨b, 0, none⟩ 1 1 [u] rfl hnews (by simpa using h1) (by simp only [maxLen]; omega) (by omega) (Nat.zero_le _);refine ⟨v', w', ?_⟩
 have hk : ∃ k, v'.ownBlock = some k ∧ (v.ownBlock = some k ∨ k = w.heap.size) := by
  rcases hown.2 with ⟨rfl, rfl⟩ | ⟨g, cap, cur, rfl, _, hgg, hnc, hcm, hcs, htake⟩
  ·have h2 := run_append_nil (P := P) w t ty e i z ht hi hz ⟨b, 0, none⟩ 1 1 [u] (by rw [hsize]; rfl) hnews (by decide) (by decide) (by omega)
   rw [hr] at h2;injection h2 with h3 h4;exact ⟨w.heap.size, by rw [h3]; rfl, .inr rfl⟩
  ·by_cases hroom : n + 1 ≤ cap
   ·have h2 := run_append_room (P := P) w t ty e i ht hi g n cap cur hgg ⟨b, 0, none⟩ 1 1 [u] (by rw [hsize]; rfl) hnews (by simpa using h1) hroom (by rw [hcs, hsize]; simp; omega)
    rw [hr] at h2;injection h2 with h3 h4;exact ⟨g, by rw [h3]; rfl, .inl rfl⟩
   ·have holds : ∀ j x, xs[j]? = some x → w.cell? ((⟨g, 0, none⟩ : Addr).add j) = some x := hown.cells (g := g) rfl
    have h2 := run_append_grow (P := P) w t ty e i z ht hi hz ⟨g, 0, none⟩ n cap xs (by rw [hown.1, hsize]) holds ⟨b, 0, none⟩ 1 1 [u] (by rw [hsize]; rfl) hnews (by omega) (by omega) (growslice_fits (by omega) (by rw [hby]; omega));rw [hr] at h2;injection h2 with h3 h4;exact ⟨w.heap.size, by rw [h3]; rfl, .inr rfl⟩
 obtain ⟨k, h1, h2⟩ := hk;exact ⟨k, hr, ho, hg, h1, h2⟩
def keyI (n : Int) : Value := .int .i64 n
def unitV : Value := .agg #[]
def KeysI (es : List MapEntry) (L : List Int) : Prop := es.map (fun e => (e.key, e.val)) = L.map (fun n => (keyI n, unitV))
def SetI (w : World) (m : Nat) (L : List Int) : Prop := ∃ es clock, w.heap[m]? = some (.map es clock) ∧ KeysI es.toList L ∧ MapKept.Stamped es clock
theorem SetI.lt {w : World} {m : Nat} {L : List Int} (h : SetI w m L) : m < w.heap.size := by
 obtain ⟨es, c, h1, _⟩ := h;exact (zl h1)
theorem SetI.kept {w w' : World} {m : Nat} {L : List Int} (h : SetI w m L) (e : w'.heap[m]? = w.heap[m]?) : SetI w' m L := by
 obtain ⟨es, c, h1, h2⟩ := h;exact ⟨es, c, e.trans h1, h2⟩
theorem KeysI.keys {es : List MapEntry} {L : List Int} (h : KeysI es L) : es.map (·.key) = L.map keyI := by
 have := congrArg (List.map Prod.fst) h
 simpa [List.map_map, Function.comp_def] using this
theorem KeysI.isKey {es : List MapEntry} {L : List Int} (h : KeysI es L) : ∀ x ∈ es, MapKept.IsKey (.int .i64) x.key := by
 intro x hx;have : x.key ∈ L.map keyI := by rw [← h.keys]; exact List.mem_map.2 ⟨x, hx, rfl⟩
 obtain ⟨n, _, hn⟩ := List.mem_map.1 this;rw [← hn]; rfl
theorem keyI_inj {a b : Int} (h : keyI a = keyI b) : a = b := by injection h
theorem KeysI.mem {es : List MapEntry} {L : List Int} (h : KeysI es L) (k : Int) : k ∈ L ↔ ∃ x ∈ es, x.key = keyI k := by
 constructor
 ·intro hk
  have : keyI k ∈ es.map (·.key) := by rw [h.keys]; exact List.mem_map.2 ⟨k, hk, rfl⟩
  obtain ⟨x, hx, e⟩ := List.mem_map.1 this;exact ⟨x, hx, e⟩
 ·rintro ⟨x, hx, e⟩
  have : keyI k ∈ L.map keyI := by rw [← h.keys, ← e]; exact List.mem_map.2 ⟨x, hx, rfl⟩
  obtain ⟨n, hn, e⟩ := List.mem_map.1 this;rw [← keyI_inj e]; exact hn
theorem KeysI.val {es : List MapEntry} {L : List Int} (h : KeysI es L) {x : MapEntry} (hx : x ∈ es) : x.val = unitV := by
 have : (x.key, x.val) ∈ L.map (fun n => (keyI n, unitV)) := by rw [← h]; exact List.mem_map.2 ⟨x, hx, rfl⟩
 obtain ⟨n, _, hn⟩ := List.mem_map.1 this;exact (Prod.mk.inj hn).2.symm
def isK (n : Int) : Value → Bool
 | .int .i64 x => decide (x = n)
 | _ => false
theorem isK_iff (n : Int) (v : Value) : isK n v = true ↔ v = keyI n := by
 unfold isK keyI
 split
 ·simp
 ·rename_i h
  constructor
  ·intro h2; cases h2
  ·intro h2; exact absurd h2 (h n)
theorem isK_no {n : Int} {v : Value} (h : v ≠ keyI n) : isK n v = false := by
 cases hk : isK n v
 ·rfl
 ·exact absurd ((isK_iff n v).1 hk) h
theorem isK_self (n : Int) : isK n (keyI n) = true := (isK_iff n _).2 rfl
theorem erase_filter : ∀ (l : List MapEntry) (j : Nat) (hj : j < l.length) (n : Int), l[j].key = keyI n → l.Pairwise (fun x y => x.key ≠ y.key) → l.eraseIdx j = l.filter fun y => !isK n y.key
 | x :: l, 0, hj, n, hx, hp => by
  have h1 := List.pairwise_cons.1 hp;have h2 : x.key = keyI n := hx;rw [List.eraseIdx_cons_zero, List.filter_cons_of_neg (by rw [h2, isK_self]; decide), List.filter_eq_self.2];intro y hy;rw [isK_no (fun e => h1.1 y hy (h2.trans e.symm))]; rfl
 | x :: l, j + 1, hj, n, hx, hp => by
  have h1 := List.pairwise_cons.1 hp;have hj' : j < l.length := by simpa using hj
  have h2 : l[j].key = keyI n := hx;rw [List.eraseIdx_cons_succ, List.filter_cons_of_pos, erase_filter l j hj' n h2 h1.2];rw [isK_no (fun e => h1.1 l[j] (List.getElem_mem _) (e.trans h2.symm))]; rfl
theorem keys_filter {l : List MapEntry} {L : List Int} (he : KeysI l L) (n : Int) : KeysI (l.filter fun y => !isK n y.key) (L.filter fun x => decide (x ≠ n)) := by
 induction l generalizing L with
 | nil => cases L with
  | nil => rfl
  | cons a L => simp [KeysI] at he
 | cons x l ih =>
  cases L with
  | nil => simp [KeysI] at he
  | cons a L =>
   unfold KeysI at he;simp only [List.map_cons, List.cons.injEq, Prod.mk.injEq] at he;have ih' := ih (L := L) he.2
   by_cases h : a = n
   ·rw [List.filter_cons_of_neg (by rw [he.1.1, h, isK_self]; decide), List.filter_cons_of_neg (by simp [h])]
    exact ih'
   ·rw [List.filter_cons_of_pos (by rw [he.1.1, isK_no (fun e => h (keyI_inj e))]; rfl), List.filter_cons_of_pos (by simpa using h)]
    unfold KeysI at ih' ⊢;rw [List.map_cons, List.map_cons, ih', he.1.1, he.1.2]
section
variable {P : Program} {w : World} {m : Nat} {L : List Int} {t k e : TypeId} (ht : P.underlying t = some (.map k e)) (hk : P.underlying k = some (.int .i64))
include ht hk
theorem lookupS (h : SetI w m L) (n : Int) (hz : (zeroValue e).run P w = .ok unitV w) :
  (Instr.lookup t (.map (some m)) (.int .i64 n) true).run P w = .ok (.tuple #[unitV, .bool (decide (n ∈ L))]) w := by
 obtain ⟨es, c, hb, he, hs⟩ := h;have h1 := MapKept.run_getObj_map (P := P) hb;have h2 := MapKept.run_checkKey (P := P) (w := w) hk (k := .int .i64 n) rfl es.isEmpty 9999
 rcases MapKept.findNow_spec (d := .int .i64) (k := .int .i64 n) rfl es.toList 0 he.isKey with ⟨h3, h4⟩ | ⟨j, x, h3, h4, h5⟩
 ·have h6 := MapKept.run_findKey (P := P) (w := w) hk h3
  have hn : ¬ n ∈ L := fun hn => by
   obtain ⟨x, hx, e⟩ := (he.mem n).1 hn;exact h4 x hx e
  rw [decide_eq_false hn];simp [Instr.lookup, run_underlying ht, h1, h2, h6, hz]
 ·have h6 := MapKept.run_findKey (P := P) (w := w) hk h3
  have hx : x ∈ es.toList := List.mem_of_getElem? h4;rw [decide_eq_true ((he.mem n).2 ⟨x, hx, h5⟩)];have hv := he.val hx;simp [Instr.lookup, run_underlying ht, h1, h2, h6, hv]
theorem putS (h : SetI w m L) (n : Int) (hn : n ∉ L) :
  ∃ o, (Instr.mapUpdate t (.map (some m)) (.int .i64 n) unitV).run P w = .ok () { w with heap := w.heap.setIfInBounds m o } ∧ SetI { w with heap := w.heap.setIfInBounds m o } m (L ++ [n]) := by
 obtain ⟨es, c, hb, he, hs⟩ := h;have h1 := MapKept.run_getObj_map (P := P) hb;have h2 := MapKept.run_checkKey (P := P) (w := w) hk (k := .int .i64 n) rfl false 9999
 rcases MapKept.findNow_spec (d := .int .i64) (k := .int .i64 n) rfl es.toList 0 he.isKey with ⟨h3, h4⟩ | ⟨j, x, h3, h4, h5⟩
 ·have h6 := MapKept.run_findKey (P := P) (w := w) hk h3
  have h7 := MapKept.run_setObj_map (P := P) (.map (es.push { key := .int .i64 n, val := unitV, born := c }) (c + 1)) hb;refine ⟨_, by simp [Instr.mapUpdate, run_underlying ht, h1, h2, h6, h7]; rfl, ?_⟩;refine ⟨_, _, (MapKept.heap_set hb).1, ?_, MapKept.stamped_push hs h4⟩;unfold KeysI at *;rw [Array.toList_push, List.map_append, he, List.map_append]
  rfl
 ·exact absurd ((he.mem n).2 ⟨x, List.mem_of_getElem? h4, h5⟩) hn
theorem delS (h : SetI w m L) (n : Int) (ty : TypeId) :
  ∃ o, (Builtin.delete_ #[t, k] ty #[.map (some m), .int .i64 n]).run P w = .ok (.tuple #[]) { w with heap := w.heap.setIfInBounds m o } ∧ SetI { w with heap := w.heap.setIfInBounds m o } m (L.filter fun x => decide (x ≠ n)) := by
 obtain ⟨es, c, hb, he, hs⟩ := h;have h1 := MapKept.run_getObj_map (P := P) hb;have h2 := MapKept.run_checkKey (P := P) (w := w) hk (k := .int .i64 n) rfl es.isEmpty 9999;have hkn := ((MapKept.stamped_iff es c).1 hs).2.2
 rcases MapKept.findNow_spec (d := .int .i64) (k := .int .i64 n) rfl es.toList 0 he.isKey with ⟨h3, h4⟩ | ⟨j, x, h3, h4, h5⟩
 ·have h6 := MapKept.run_findKey (P := P) (w := w) hk h3
  have h7 := MapKept.run_setObj_map (P := P) (.map es c) hb;refine ⟨.map es c, by simp [Builtin.delete_, run_underlying ht, h1, h2, h6, h7], ?_⟩;refine ⟨es, c, (MapKept.heap_set hb).1, ?_, hs⟩
  have hf : L.filter (fun x => decide (x ≠ n)) = L := by
   rw [List.filter_eq_self];intro x hx;simp only [decide_eq_true_eq];intro e;subst e;obtain ⟨y, hy, e⟩ := (he.mem x).1 hx;exact h4 y hy e
  rw [hf]; exact he
 ·have h6 := MapKept.run_findKey (P := P) (w := w) hk h3
  have h7 := MapKept.run_setObj_map (P := P) (.map (es.eraseIdxIfInBounds j) c) hb;rw [Nat.zero_add] at h6;refine ⟨.map (es.eraseIdxIfInBounds j) c, by simp [Builtin.delete_, run_underlying ht, h1, h2, h6, h7], ?_⟩;refine ⟨_, c, (MapKept.heap_set hb).1, ?_, MapKept.stamped_erase hs j⟩;obtain ⟨hjl, hjx⟩ := List.getElem?_eq_some_iff.1 h4
  have e1 : (es.eraseIdxIfInBounds j).toList = es.toList.filter fun y => !isK n y.key := by
   have hj2 : j < es.size := by simpa using hjl
   unfold Array.eraseIdxIfInBounds;rw [dif_pos hj2, Array.toList_eraseIdx];exact erase_filter es.toList j hjl n (by rw [hjx]; exact h5) hkn
  rw [e1];exact keys_filter he n
omit hk in
theorem clearS (h : SetI w m L) (ty : TypeId) :
  ∃ o, (Builtin.clear_ #[t] ty #[.map (some m)]).run P w = .ok (.tuple #[]) { w with heap := w.heap.setIfInBounds m o } ∧ SetI { w with heap := w.heap.setIfInBounds m o } m [] := by
 obtain ⟨es, c, hb, he, hs⟩ := h;have h1 := MapKept.run_getObj_map (P := P) hb;have h4 := MapKept.run_setObj_map (P := P) (.map #[] c) hb;refine ⟨_, by simp [Builtin.clear_, run_underlying ht, h1, h4]; rfl, ?_⟩;exact ⟨_, _, (MapKept.heap_set hb).1, rfl, MapKept.stamped_empty c⟩
end
def RangeS (w : World) (r m : Nat) (L left : List Int) : Prop := ∃ es clock since seen last, w.heap[m]? = some (.map es clock) ∧ KeysI es.toList L ∧ MapKept.Stamped es clock ∧
 w.heap[r]? = some (.mapIter (some m) since seen last) ∧ (∀ x ∈ es.toList, x.born < since) ∧ since ≤ last ∧ since ≤ clock ∧ KeysI (leftOf es seen).toList left
theorem RangeS.set {w : World} {r m : Nat} {L left : List Int} (h : RangeS w r m L left) : SetI w m L := by
 obtain ⟨es, c, s, sn, l, h1, h2, h3, _⟩ := h;exact ⟨es, c, h1, h2, h3⟩
theorem RangeS.kept {w w' : World} {r m : Nat} {L left : List Int} (h : RangeS w r m L left) (e1 : w'.heap[m]? = w.heap[m]?) (e2 : w'.heap[r]? = w.heap[r]?) : RangeS w' r m L left := by
 obtain ⟨es, c, s, sn, l, h1, h2, h3, h4, h5⟩ := h;exact ⟨es, c, s, sn, l, e1.trans h1, h2, h3, e2.trans h4, h5⟩
theorem RangeS.ne {w : World} {r m : Nat} {L left : List Int} (h : RangeS w r m L left) : r ≠ m := by
 obtain ⟨es, c, s, sn, l, h1, h2, h3, h4, h5⟩ := h;intro e;subst e;rw [h1] at h4
 cases h4
theorem RangeS.lt {w : World} {r m : Nat} {L left : List Int} (h : RangeS w r m L left) : r < w.heap.size := by
 obtain ⟨es, c, s, sn, l, h1, h2, h3, h4, h5⟩ := h;exact (zl h4)
theorem RangeS.sub {w : World} {r m : Nat} {L left : List Int} (h : RangeS w r m L left) : (∀ x ∈ left, x ∈ L) ∧ left.Nodup := by
 obtain ⟨es, c, s, sn, l, h1, h2, h3, h4, h5, h6, h6', h7⟩ := h;have hs : (leftOf es sn).toList.Sublist es.toList := by unfold leftOf; rw [Array.toList_filter]; exact List.filter_sublist
 refine ⟨fun x hx => ?_, ?_⟩
 ·obtain ⟨y, hy, e⟩ := (h7.mem x).1 hx
  exact (h2.mem x).2 ⟨y, hs.subset hy, e⟩
 ·have hkn := ((MapKept.stamped_iff es c).1 h3).2.2
  have h8 : ((leftOf es sn).toList.map (·.key)).Nodup := List.pairwise_map.2 (hkn.sublist hs);rw [h7.keys] at h8;exact (List.pairwise_map.1 h8).imp fun hne e => hne (by rw [e])
theorem entry_of_born {l : List MapEntry} (h : (l.map (·.born)).Nodup) {x y : MapEntry} (hx : x ∈ l) (hy : y ∈ l) (e : x.born = y.born) : x = y := by
 have h1 := find_born x l h hx;have h2 := find_born y l h hy;rw [e] at h1;rw [h1] at h2;exact Option.some.inj h2
theorem rangeS {P : Program} {w : World} {m : Nat} {L : List Int} {t k e : TypeId} (ht : P.underlying t = some (.map k e)) (h : SetI w m L) :
  ∃ w', (Instr.range t (.map (some m))).run P w = .ok (.pointer (some ⟨w.heap.size, 0, none⟩)) w' ∧ RangeS w' w.heap.size m L L ∧ Below w.heap.size w w' ∧ w'.heap.size = w.heap.size + 1 := by
 obtain ⟨es, c, hb, he, hs⟩ := h;have h1 := MapKept.run_getObj_map (P := P) hb;have hm := (zl hb);refine ⟨w.alloc (.mapIter (some m) c #[] c), by simp [Instr.range, run_underlying ht, h1, newObj, Sem.run], ⟨es, c, c, #[], c, (MapKept.heap_alloc w _).2 m hm |>.trans hb, he, hs, (MapKept.heap_alloc w _).1, ((MapKept.stamped_iff es c).1 hs).1, Nat.le_refl _, Nat.le_refl _, ?_⟩, Br.alloc (Nat.le_refl _) _, by simp⟩;have : leftOf es #[] = es := by unfold leftOf; simp
 rw [this]; exact he
theorem nextS {P : Program} {w : World} {r m : Nat} {L left : List Int} (h : RangeS w r m L left) (ty : TypeId) :
  (left = [] ∧ (Instr.next (.pointer (some ⟨r, 0, none⟩)) false ty).run P w = .ok (.tuple #[.bool false]) w) ∨
  ∃ n ∈ left, ∃ w', (Instr.next (.pointer (some ⟨r, 0, none⟩)) false ty).run P w = .ok (.tuple #[.bool true, .int .i64 n, unitV]) w' ∧ RangeS w' r m L (left.filter fun x => decide (x ≠ n)) ∧
   Frm (fun k => k = r) w w' ∧ w'.heap.size = w.heap.size ∧ (Instr.entry (.pointer (some ⟨r, 0, none⟩))).run P w' = .ok (.tuple #[.int .i64 n, unitV]) w' := by
 have hne := h.ne;obtain ⟨es, c, s, sn, l, h1, h2, h3, h4, h5, h6, h6', h7⟩ := h
 rcases run_next_at (P := P) w ty r m s l sn es c h4 h1 h5 h6 with ⟨h0, hrun⟩ | ⟨e, hel, w1, hw1, hrun⟩
 ·left
  have e1 : (leftOf es sn).toList = [] := by
   apply List.eq_nil_of_length_eq_zero; simpa using h0
  rw [e1] at h7
  cases left with
  | nil => exact ⟨rfl, hrun⟩
  | cons a left => simp [KeysI] at h7
 ·right
  have hsub : (leftOf es sn).toList.Sublist es.toList := by unfold leftOf; rw [Array.toList_filter]; exact List.filter_sublist
  have hes : e ∈ es.toList := hsub.subset hel;obtain ⟨hb1, hb2, hb3⟩ := (MapKept.stamped_iff es c).1 h3
  have hkey : ∃ n, n ∈ left ∧ e.key = keyI n := by
   have : e.key ∈ left.map keyI := by rw [← h7.keys]; exact List.mem_map.2 ⟨e, hel, rfl⟩
   obtain ⟨n, hn, e1⟩ := List.mem_map.1 this;exact ⟨n, hn, e1.symm⟩
  obtain ⟨n, hn, hk⟩ := hkey;have hv := h2.val hes;have hr : w1.heap = w.heap ∧ w1.os = w.os ∧ w1.tape = w.tape ∧ w1.output = w.output := by rcases hw1 with rfl | rfl <;> exact ⟨rfl, rfl, rfl, rfl⟩
  have hrl : r < w1.heap.size := by rw [hr.1]; exact (zl h4)
  have q1 : (ChangeMaps.setBlock w1 r (.mapIter (some m) s (sn.push e.born) c)).heap[r]? = some (.mapIter (some m) s (sn.push e.born) c) := by
   simp [ChangeMaps.setBlock, hrl]
  have q2 : ∀ i, i ≠ r → (ChangeMaps.setBlock w1 r (.mapIter (some m) s (sn.push e.born) c)).heap[i]? = w.heap[i]? := fun i hi => by
   simp only [ChangeMaps.setBlock];rw [Array.getElem?_setIfInBounds_ne (Ne.symm hi), hr.1]
  have q3 : (ChangeMaps.setBlock w1 r (.mapIter (some m) s (sn.push e.born) c)).heap.size = w.heap.size := by
   simp [ChangeMaps.setBlock, hr.1]
  rw [hk, hv] at hrun;refine ⟨n, hn, _, hrun, ⟨es, c, s, sn.push e.born, c, (q2 m (Ne.symm hne)).trans h1, h2, h3, q1, h5, h6', h6', ?_⟩, ⟨hr.2.1, hr.2.2.1, hr.2.2.2, by rw [q3]; exact Nat.le_refl _, fun i _ hi => q2 i hi⟩, q3, ?_⟩
  ·have e1 : (leftOf es (sn.push e.born)).toList = (leftOf es sn).toList.filter fun y => !isK n y.key := by
    unfold leftOf;rw [Array.toList_filter, Array.toList_filter, List.filter_filter];apply List.filter_congr;intro y hy
    have hiff : y.born = e.born ↔ y.key = keyI n := by
     constructor
     ·intro hb
      have : y = e := entry_of_born hb2 hy hes hb;rw [this]; exact hk
     ·intro hb
      have : y = e := entry_eq_of_key hb3 hy hes (by rw [hb, hk]);rw [this]
    by_cases hb : y.born = e.born
    ·have hb' := hiff.1 hb
     rw [hb', isK_self, hb];simp
    ·have hb' : ¬ y.key = keyI n := fun x => hb (hiff.2 x)
     rw [isK_no hb'];simp [hb]
   rw [e1];exact keys_filter h7 n
  ·rw [← hv]
   have := run_entry_at (P := P) (ChangeMaps.setBlock w1 r (.mapIter (some m) s (sn.push e.born) c)) r m s sn es c e q1 ((q2 m (Ne.symm hne)).trans h1) hes hb2;rw [hk, hv] at this;rw [hv]; exact this
end Go.Proofs.YtmomlhiokggfbaaGreatDoor
