/-
  What the law NodeHalves asks of a node that is split and joined again.
-/
import Derived.Test.YtkdcoipbdkmieaaNodeJo
import Derived.Test.YtkdcoipbdkmieaaNodeKy
import Derived.Test.YtkdcoipbdkmieaaNodeHg
import Derived.Test.YtkdcoipbdkmieaaNodeN
namespace Go.Proofs.Ytkdcoipbdkmieaa
open Go.RowKit
set_option linter.unusedVariables false
set_option linter.unusedSimpArgs false
/-- A node's key at place i. -/
def AtK (n : Nod) (i : Nat) (k : Int) : Prop := ∀ (w : World) (a : Option Addr), Rd w a (n.K.map ukey) → ∃ b off, a = some ⟨b, off, none⟩ ∧ b < w.heap.size ∧ w.cell? ⟨b, off + i, none⟩ = some (.int .u64 k)
theorem atK (n : Nod) (i : Nat) (h : i < n.K.length) : AtK n i n.K[i] := by
  intro w a hr
  obtain ⟨b, off, q1, q2, q3⟩ := hr.at i (by simpa using h)
  exact ⟨b, off, q1, q2, by rw [q3]; simp [ukey]⟩
def Halves (lf : Bool) (N : Nod) : Prop :=
  (N.K.length < leastN lf ∧ ∀ ak av ac ck cv cc w', NodR w' N ak av ac ck cv cc → Calls Try.prog 25 #[nodV N ak av ac ck cv cc] w' fun e w'' => e = .returned (.tuple #[zeroV, .int .u64 0, zeroV, .bool false]) ∧ Below w'.heap.size w' w'') ∨
  ∃ (A B : Nod) (mid : Int), (∀ ak av ac ck cv cc w', NodR w' N ak av ac ck cv cc → Calls Try.prog 25 #[nodV N ak av ac ck cv cc] w' fun e w'' => SplitBack A B mid e w'' ∧ Below w'.heap.size w' w'') ∧
    (∀ i, i < A.K.length → ∃ k, AtK A i k ∧ ¬ mid ≤ k) ∧
    (∀ i, i < B.K.length → ∃ k, AtK B i k ∧ ¬ k < mid ∧ (lf = false → ¬ k = mid)) ∧
    (∀ ak av ac bk bv bc ck cv cc dk dv dc w', NodR w' A ak av ac ck cv cc → NodR w' B bk bv bc dk dv dc → Calls Try.prog 26 #[nodV A ak av ac ck cv cc, .int .u64 mid, nodV B bk bv bc dk dv dc] w' fun e w'' => JoinBack N e w'' ∧ Below w'.heap.size w' w'') ∧
    1 ≤ A.K.length ∧ 1 ≤ B.K.length ∧ A.K.length ≤ 20 ∧ B.K.length ≤ 20
theorem halves_of (lf : Bool) (N : Nod) (hl : N.leaf = lf) (hw : wholeB N = true) (hr : Rise N.K) (hn : N.K.length ≤ 20) (ho : NodOk N) : Halves lf N := by
  by_cases hle : N.K.length < leastN lf
  · exact .inl ⟨hle, fun ak av ac ck cv cc w' h => split_few N ak av ac ck cv cc w' h hw (by rw [hl]; exact hle)⟩
  · right
    have hc := cutN_le N
    have hls : leastN N.leaf ≤ N.K.length := by rw [hl]; omega
    have hm : mostN N = N.K.length - leastN N.leaf + 1 := rfl
    have hl2 : 2 ≤ leastN N.leaf ∧ (N.leaf = false → 3 ≤ leastN N.leaf) := by unfold leastN; cases N.leaf <;> simp
    have hcl : cutN N < N.K.length := by omega
    have hwA := ahead_whole N (cutN N) hw (by omega)
    have hmid := ho.kb _ (List.getElem_mem hcl)
    have hK := List.pairwise_iff_getElem.1 hr
    refine ⟨aheadN N (cutN N), behindN N (cutN N), N.K[cutN N], fun ak av ac ck cv cc w' h => split_yes N ak av ac ck cv cc w' h hw hls _ (List.getElem?_eq_getElem hcl), ?_, ?_, ?_, ?_⟩
    · intro i hi
      have eA : (aheadN N (cutN N)).K = N.K.take (cutN N) := by unfold aheadN; split <;> rfl
      have hi' : i < cutN N := by rw [eA] at hi; simp at hi; omega
      refine ⟨_, atK _ i hi, ?_⟩
      have := hK i (cutN N) (by omega) hcl hi'
      simp only [eA, List.getElem_take]
      omega
    · intro i hi
      refine ⟨_, atK _ i hi, ?_⟩
      cases hlf : N.leaf with
      | true =>
        have eB : (behindN N (cutN N)).K = N.K.drop (cutN N) := by unfold behindN; rw [hlf]; rfl
        simp only [eB, List.getElem_drop]
        rw [eB] at hi
        simp only [List.length_drop] at hi
        refine ⟨?_, fun h => by rw [← hl, hlf] at h; cases h⟩
        by_cases h0 : i = 0
        · subst h0; simp
        · have := hK (cutN N) (cutN N + i) hcl (by omega) (by omega)
          omega
      | false =>
        have eB : (behindN N (cutN N)).K = N.K.drop (cutN N + 1) := by unfold behindN; rw [hlf]; rfl
        simp only [eB, List.getElem_drop]
        rw [eB] at hi
        simp only [List.length_drop] at hi
        have := hK (cutN N) (cutN N + 1 + i) hcl (by omega) (by omega)
        exact ⟨by omega, fun _ => by omega⟩
    · intro ak av ac bk bv bc ck cv cc dk dv dc w' hA hB
      have hlA : (aheadN N (cutN N)).leaf = (behindN N (cutN N)).leaf := by unfold aheadN behindN; split <;> rfl
      have hwB : wholeB (behindN N (cutN N)) = true := by
        cases hlf : N.leaf with
        | true =>
          have := (wholeB_leaf hlf).1 hw
          unfold behindN; rw [hlf]
          exact (wholeB_leaf rfl).2 ⟨by simp [this.1], rfl⟩
        | false =>
          have := (wholeB_branch hlf).1 hw
          unfold behindN; rw [hlf]
          refine (wholeB_branch rfl).2 ⟨?_, rfl⟩
          simp [this.1]; omega
      have hj : joinN (aheadN N (cutN N)) N.K[cutN N] (behindN N (cutN N)) = N := by
        obtain ⟨lf', K, V, C⟩ := N
        cases lf' with
        | true =>
          have := (wholeB_leaf (n := ⟨true, K, V, C⟩) rfl).1 hw
          have hC : C = [] := List.eq_nil_of_length_eq_zero this.2
          subst hC
          simp [joinN, aheadN, behindN]
        | false =>
          have := (wholeB_branch (n := ⟨false, K, V, C⟩) rfl).1 hw
          have hV : V = [] := List.eq_nil_of_length_eq_zero this.2
          subst hV
          simp only [joinN, aheadN, behindN, Bool.false_eq_true, if_false, List.append_nil, List.take_append_drop, List.append_assoc]
          congr 1
          have e := List.take_append_drop (cutN ⟨false, K, [], C⟩) K
          rw [List.drop_eq_getElem_cons hcl] at e
          exact e
      have hlen : (aheadN N (cutN N)).K.length ≤ 20 ∧ (behindN N (cutN N)).K.length ≤ 20 := by
        unfold aheadN behindN; split <;> simp <;> omega
      have := join_is _ _ ak av ac bk bv bc ck cv cc dk dv dc w' hA hB _ hmid hlA hwA hwB (by omega) (by omega)
      rw [hj] at this
      exact this
    · unfold aheadN behindN
      have h3 := hl2.2
      cases hlf : N.leaf with
      | true => simp; omega
      | false => have := h3 hlf; simp; omega
/-- A zero node and one that has keys are not the same. -/
theorem zero_same (n : Nod) (bk bv bc : Option Addr) (dk dv dc : Nat) (w : World) (hB : NodR w n bk bv bc dk dv dc) (hn : 0 < n.K.length) :
    Calls Try.prog 38 #[zeroV, nodV n bk bv bc dk dv dc] w fun e w' => e = .returned (.bool false) ∧ Below w.heap.size w w' := by
  have k1 := hB.ok.k1
  clear hB
  obtain ⟨lf, K, V, C⟩ := n
  unfold nodV zeroV
  dsimp only at hn k1 ⊢
  generalize K.length = lk at *
  generalize V.length = lv at *
  generalize C.length = lc at *
  have hk : ((0 : Int) == (lk : Int)) = false := by simp; omega
  have hk2 : ¬ (0 : Int) = (lk : Int) := by omega
  have hk3 : decide ((0 : Int) = (lk : Int)) = false := by simpa using hk2
  cases lf
  all_goals
    go_enter Try.func38, Try.ntmps38
    go_wp2_with fail
    try rw [Exit.noGoto_ret]
    go_ret
    exact ⟨rfl, by repeat' (first | exact Below.refl _ _ | refine Below.setCell ?_ (by simp) _ | refine Below.alloc ?_ (by simp) _)⟩
end Go.Proofs.Ytkdcoipbdkmieaa
