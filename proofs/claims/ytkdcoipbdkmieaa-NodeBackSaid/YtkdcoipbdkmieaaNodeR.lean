/-
  Package node: a node in memory; whole, Size, Find.
-/
import Derived.Test.YtkdcoipbdkmieaaRd
import Derived.Test.YtkdcoipbdkmieaaNodeMath
namespace Go.Proofs.Ytkdcoipbdkmieaa
open Go.RowKit
set_option linter.unusedVariables false
set_option linter.unusedSimpArgs false
def ukey (k : Int) : Value := .int .u64 k
def ikid (k : Int) : Value := .int .i64 k
/-- A node's value. -/
def nodV (n : Nod) (ak av ac : Option Addr) (ck cv cc : Nat) : Value := .agg #[.bool n.leaf, .slice ak n.K.length ck, .slice av n.V.length cv, .slice ac n.C.length cc]
/-- What a node's numbers and texts keep to. -/
structure NodOk (n : Nod) : Prop where
  k1 : n.K.length ≤ 1000
  v1 : n.V.length ≤ 1000
  c1 : n.C.length ≤ 1000
  kb : ∀ x ∈ n.K, 0 ≤ x ∧ x ≤ 18446744073709551615
  vb : ∀ x ∈ n.V, x.size ≤ 140737488351232
  cb : ∀ x ∈ n.C, -9223372036854775808 ≤ x ∧ x ≤ 9223372036854775807
/-- A node that is read. -/
structure NodR (w : World) (n : Nod) (ak av ac : Option Addr) (ck cv cc : Nat) : Prop where
  k : Rd w ak (n.K.map ukey)
  v : Rd w av (n.V.map Value.string)
  c : Rd w ac (n.C.map ikid)
  k2 : n.K.length ≤ ck
  k3 : ck ≤ maxLen
  v2 : n.V.length ≤ cv
  v3 : cv ≤ maxLen
  c2 : n.C.length ≤ cc
  c3 : cc ≤ maxLen
  ok : NodOk n
theorem NodR.below {w w' : World} {n : Nod} {ak av ac : Option Addr} {ck cv cc : Nat} (h : NodR w n ak av ac ck cv cc) (hb : Below w.heap.size w w') : NodR w' n ak av ac ck cv cc :=
  ⟨h.k.below hb, h.v.below hb, h.c.below hb, h.k2, h.k3, h.v2, h.v3, h.c2, h.c3, h.ok⟩
/-- The cells of a node's box. -/
def boxC (n : Nod) (ak av ac : Option Addr) (ck cv cc : Nat) : Array Value := #[.bool n.leaf, .slice ak n.K.length ck, .slice av n.V.length cv, .slice ac n.C.length cc]
set_option maxHeartbeats 800000 in
theorem whole_is (lf : Bool) (lk lv lc ck cv cc : Nat) (ak av ac : Option Addr) (w : World) (v : Bool) (hv : Hid ((if lf then decide (lv = lk) && decide (lc = 0) else decide (lc = lk + 1) && decide (lv = 0)) = v)) (h1 : lk ≤ 1000) (h2 : lv ≤ 1000) (h3 : lc ≤ 1000) :
    Calls Try.prog 34 #[.agg #[.bool lf, .slice ak lk ck, .slice av lv cv, .slice ac lc cc]] w fun e w' => e = .returned (.bool v) ∧ Below w.heap.size w w' := by
  cases lf
  · by_cases a1 : (lc : Int) = (lk : Int) + 1
    · by_cases a2 : (lv : Int) = 0
      · have hv' : v = true := by rw [← hv.out]; simp; omega
        subst hv'
        clear hv
        go_enter Try.func34, Try.ntmps34
        go_wp2_with fail
        go_ret
        exact ⟨ret_bool (by first | rfl | simpa using a2), (Below.refl _ _).alloc (Nat.le_refl _) _⟩
      · have hv' : v = false := by rw [← hv.out]; simp; omega
        subst hv'
        clear hv
        go_enter Try.func34, Try.ntmps34
        go_wp2_with fail
        go_ret
        exact ⟨ret_bool (by first | rfl | simpa using a2), (Below.refl _ _).alloc (Nat.le_refl _) _⟩
    · have hv' : v = false := by rw [← hv.out]; simp; omega
      subst hv'
      clear hv
      go_enter Try.func34, Try.ntmps34
      go_wp2_with fail
      go_ret
      exact ⟨rfl, (Below.refl _ _).alloc (Nat.le_refl _) _⟩
  · by_cases a1 : (lv : Int) = (lk : Int)
    · by_cases a2 : (lc : Int) = 0
      · have hv' : v = true := by rw [← hv.out]; simp; omega
        subst hv'
        clear hv
        go_enter Try.func34, Try.ntmps34
        go_wp2_with fail
        go_ret
        exact ⟨ret_bool (by first | rfl | simpa using a2), (Below.refl _ _).alloc (Nat.le_refl _) _⟩
      · have hv' : v = false := by rw [← hv.out]; simp; omega
        subst hv'
        clear hv
        go_enter Try.func34, Try.ntmps34
        go_wp2_with fail
        go_ret
        exact ⟨ret_bool (by first | rfl | simpa using a2), (Below.refl _ _).alloc (Nat.le_refl _) _⟩
    · have hv' : v = false := by rw [← hv.out]; simp; omega
      subst hv'
      clear hv
      go_enter Try.func34, Try.ntmps34
      go_wp2_with fail
      go_ret
      exact ⟨rfl, (Below.refl _ _).alloc (Nat.le_refl _) _⟩
theorem whole_any (n : Nod) (ak av ac : Option Addr) (ck cv cc : Nat) (w : World) (ho : NodOk n) (v : Bool) (hv : wholeB n = v) :
    Calls Try.prog 34 #[nodV n ak av ac ck cv cc] w fun e w' => e = .returned (.bool v) ∧ Below w.heap.size w w' :=
  whole_is n.leaf n.K.length n.V.length n.C.length ck cv cc ak av ac w v (Lib.hid hv) ho.k1 ho.v1 ho.c1
end Go.Proofs.Ytkdcoipbdkmieaa
