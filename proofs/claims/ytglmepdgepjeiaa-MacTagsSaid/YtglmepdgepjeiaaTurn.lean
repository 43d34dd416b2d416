/-
  first, table, turn.
-/
import Derived.Test.YtglmepdgepjeiaaSpread
namespace Go.Proofs.Ytglmepdgepjeiaa
open Go.RowKit
set_option linter.unusedVariables false

theorem info_state : (Try.prog.info? 36).map (·.size) = some 8 := by kernel_rfl
theorem info_words : (Try.prog.info? 39).map (·.size) = some 64 := by kernel_rfl
set_option maxHeartbeats 1600000 in
theorem first_any (w : World) :
    Calls Try.prog 19 #[] w fun e w' => e = .returned (.agg (U S.HS.list)) ∧ Below w.heap.size w w' := by
  go_enter Try.func19, Try.ntmps19
  go_wp2_with fail
  exact bodyPost_ret (v := .agg (U S.HS.list)) (by simp [results, Try.results19, go_sem]; rfl) rfl ⟨rfl, (Below.refl _ _).alloc (Nat.le_refl _) _⟩
def IsK (L : List Nat) : Prop := S.KS = L
set_option maxHeartbeats 6400000 in
set_option maxRecDepth 100000 in
theorem table_walk (L : List Nat) (w : World) (HL : IsK L) :
    Calls Try.prog 20 #[] w fun e w' => e = .returned (.agg (U L)) ∧ Below w.heap.size w w' := by
  have hlen : L.length = 64 := by have h : S.KS = L := HL; rw [← h]; rfl
  have hone := U_one L
  have hinfo : (Try.prog.info? 39).map (·.size) = some (U L).size := by rw [U_size, hlen]; exact info_words
  have hold : (U (fill [])).size = (U L).size := by rw [U_size, U_size, hlen]; rfl
  have hZ : Arr 39 (w.alloc (.cells (U (fill [])) 39)) w.heap.size (fill []) := Arr.new w _
  have hrow := hZ.row L
  have hdone : Below w.heap.size w ((w.alloc (.cells (U (fill [])) 39)).setRow w.heap.size (U L)) := below_setRow ((Below.refl _ _).alloc (Nat.le_refl _) _) (Nat.le_refl _) _
  have RW := Lib.hid hrow
  have IN := Lib.hid hinfo
  have OL := Lib.hid hold
  have ON := Lib.hid hone
  have HZ := Lib.hid hZ
  clear hlen hone hinfo hold hZ hrow
  go_enter Try.func20, Try.ntmps20
  go_upto_region 1 with fail
  go_step
  refine wpList_build rfl _ _ rfl (by kernel_rfl) ?_
  generalize hV : (Option.getD (Program.built _ _ _) #[]) = V
  have hVE : V = U L := by
    have h : S.KS = L := HL
    rw [← h]
    exact hV.symm.trans (by kernel_rfl)
  subst hVE
  clear hV
  refine wpList_store_row rfl 39 (.tmp 0) (.tmp 1) rfl w.heap.size (U L) rfl rfl 39 (U (fill [])) HZ.out IN.out OL.out ON.out ?_
  go_wp2_with fail
  exact bodyPost_ret (v := .agg (U L)) (results_cell_row Try.results20 _ _ w.heap.size 39 (U L) (0, 0) _ rfl RW.out Try.underlying39 rfl IN.out) rfl ⟨rfl, hdone⟩
theorem table_any (w : World) :
    Calls Try.prog 20 #[] w fun e w' => e = .returned (.agg (U S.KS)) ∧ Below w.heap.size w w' :=
  table_walk _ w (show IsK _ from rfl)
theorem S1_eq (x : Nat) : S.S1 x = S.x3 (S.rot x 6) (S.rot x 11) (S.rot x 25) := rfl
theorem S0_eq (x : Nat) : S.S0 x = S.x3 (S.rot x 2) (S.rot x 13) (S.rot x 22) := rfl
theorem ch_eq (e f g : Nat) : S.ch e f g = (e &&& f) ^^^ ((4294967295 ^^^ e) &&& g) := rfl
theorem maj_eq (a b c : Nat) : S.maj a b c = S.x3 (a &&& b) (a &&& c) (b &&& c) := rfl
theorem x3_fact (a b c : Nat) (ha : a < 4294967296) (hb : b < 4294967296) (hc : c < 4294967296) : bits .xor .u32 (bits .xor .u32 (a : Int) (b : Int)) (c : Int) = (S.x3 a b c : Int) := by
  rw [u32_xor_nat a b ha hb, u32_xor_nat _ c (S.xor_lt ha hb) hc, x3_eq]
theorem ch_fact (e f g : Nat) (he : e < 4294967296) (hf : f < 4294967296) (hg : g < 4294967296) : bits .xor .u32 (bits .and .u32 (e : Int) (f : Int)) (bits .and .u32 (bits .xor .u32 IntKind.u32.max (e : Int)) (g : Int)) = (S.ch e f g : Int) := by
  have hm : IntKind.u32.max = ((4294967295 : Nat) : Int) := by decide
  rw [hm, u32_and_nat e f he hf, u32_xor_nat 4294967295 e (by decide) he, u32_and_nat _ g (S.xor_lt (by decide) he) hg, u32_xor_nat _ _ (S.and_lt he) (S.and_lt (S.xor_lt (by decide) he)), ch_eq]
theorem t1_eq (s : S.St) (k w : Nat) : S.t1 s k w = S.add (S.add (S.add (S.add s.h (S.S1 s.e)) (S.ch s.e s.f s.g)) k) w := rfl
theorem t2_eq (s : S.St) : S.t2 s = S.add (S.S0 s.a) (S.maj s.a s.b s.c) := rfl
theorem add_eq (a b : Nat) : S.add a b = (a + b) % 4294967296 := rfl
theorem t1_fact (s : S.St) (k w : Nat) (he : s.e < 4294967296) (hf : s.f < 4294967296) (hg : s.g < 4294967296) :
    ((s.h : Int) + bits .xor .u32 (bits .xor .u32 (S.rot s.e 6 : Int) (S.rot s.e 11 : Int)) (S.rot s.e 25 : Int) + bits .xor .u32 (bits .and .u32 (s.e : Int) (s.f : Int)) (bits .and .u32 (bits .xor .u32 IntKind.u32.max (s.e : Int)) (s.g : Int)) + (k : Int) + (w : Int)) % 4294967296 = (S.t1 s k w : Int) := by
  rw [x3_fact _ _ _ (S.rot_lt _ _ he) (S.rot_lt _ _ he) (S.rot_lt _ _ he), ch_fact _ _ _ he hf hg, ← S1_eq, t1_eq, add_eq, add_eq, add_eq, add_eq]
  generalize S.S1 s.e = p
  generalize S.ch s.e s.f s.g = q
  omega
theorem t2_fact (s : S.St) (ha : s.a < 4294967296) (hb : s.b < 4294967296) (hc : s.c < 4294967296) :
    (bits .xor .u32 (bits .xor .u32 (S.rot s.a 2 : Int) (S.rot s.a 13 : Int)) (S.rot s.a 22 : Int) + bits .xor .u32 (bits .xor .u32 (bits .and .u32 (s.a : Int) (s.b : Int)) (bits .and .u32 (s.a : Int) (s.c : Int))) (bits .and .u32 (s.b : Int) (s.c : Int))) % 4294967296 = (S.t2 s : Int) := by
  rw [x3_fact _ _ _ (S.rot_lt _ _ ha) (S.rot_lt _ _ ha) (S.rot_lt _ _ ha), u32_and_nat _ _ ha hb, u32_and_nat _ _ ha hc, u32_and_nat _ _ hb hc, x3_fact _ _ _ (S.and_lt ha) (S.and_lt ha) (S.and_lt hb), ← S0_eq, ← maj_eq, t2_eq, add_eq]
  generalize S.S0 s.a = p
  generalize S.maj s.a s.b s.c = q
  omega
end Go.Proofs.Ytglmepdgepjeiaa
