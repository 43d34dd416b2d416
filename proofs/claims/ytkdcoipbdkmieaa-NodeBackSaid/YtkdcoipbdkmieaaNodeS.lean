/-
  Package node: Size, Find.
-/
import Derived.Test.YtkdcoipbdkmieaaNodeR
namespace Go.Proofs.Ytkdcoipbdkmieaa
open Go.RowKit
set_option linter.unusedVariables false
set_option linter.unusedSimpArgs false
theorem bytesV_take (V : List ByteArray) (i : Nat) (h : i < V.length) : bytesV (V.take (i + 1)) = bytesV (V.take i) + V[i].size := by
  rw [List.take_succ_eq_append_getElem h, bytesV_append]
  simp [bytesV]
set_option maxHeartbeats 1600000 in
theorem size_is (n : Nod) (ak av ac : Option Addr) (ck cv cc : Nat) (w : World) (h : NodR w n ak av ac ck cv cc) (z : Nat) (hz : Hid (sizeN n = z)) (hw : wholeB n = true) :
    Calls Try.prog 33 #[nodV n ak av ac ck cv cc] w fun e w' => e = .returned (.int .i64 (z : Int)) ∧ Below w.heap.size w w' := by
  obtain ⟨lf, K, V, C⟩ := n
  have h1 := h.ok.k1
  have h2 := h.ok.v1
  have h3 := h.ok.c1
  have HV := Lib.hid h.v
  have vb := h.ok.vb
  have tot : ∀ i, bytesV (V.take i) ≤ 1000 * 140737488351232 := fun i => by
    have a := bytesV_le (V.take i) 140737488351232 (fun v hv => vb v (List.mem_of_mem_take hv))
    have b : (V.take i).length ≤ 1000 := by have : V.length ≤ 1000 := h2; rw [List.length_take]; omega
    exact Nat.le_trans a (Nat.mul_le_mul_right _ b)
  have TOT := Lib.hid tot
  have VB := Lib.hid vb
  have hk : K.length ≤ 1000 := h1
  have hv : V.length ≤ 1000 := h2
  have hc : C.length ≤ 1000 := h3
  clear h h1 h2 h3 tot vb
  unfold nodV
  cases lf
  · have e : (z : Int) = 1 + (K.length : Int) * 8 + (C.length : Int) * 2 := by rw [← hz.out]; unfold sizeN; simp; omega
    rw [e]
    clear e hz hw
    generalize hlk : K.length = lk at *
    generalize hlv : V.length = lv at *
    generalize hlc : C.length = lc at *
    clear HV TOT VB hlk hlv hlc
    go_enter Try.func33, Try.ntmps33
    go_wp2_with fail
    go_ret
    exact ⟨rfl, (Below.refl _ _).alloc (Nat.le_refl _) _⟩
  · have hvk : V.length = K.length := ((wholeB_leaf rfl).1 hw).1
    have e : (z : Int) = 1 + (K.length : Int) * 8 + (K.length : Int) * 1 + (bytesV (V.take V.length) : Int) := by rw [← hz.out]; unfold sizeN; simp; omega
    rw [e]
    clear e hz hw
    have e0 : Hid (bytesV (V.take 0) = 0) := Lib.hid rfl
    generalize hlk : K.length = lk at *
    generalize hlv : V.length = lv at *
    generalize hlc : C.length = lc at *
    go_enter Try.func33, Try.ntmps33
    go_wp2_with fail
    go_loopw [3, 5, 29] (fun s v i wr => ∃ j : Nat, j ≤ lk ∧ i = .int .i64 (j : Int) ∧ s = .int .i64 (1 + (lk : Int) * 8 + (lk : Int) + (bytesV (V.take j) : Int)) ∧ wr = w.alloc (.cells #[.bool true, .slice ak lk ck, .slice av lk cv, .slice ac lc cc] 26)) (fun _ _ i _ => lk + 1 - (intOf i).toNat)
    case atStart => exact ⟨0, Nat.zero_le _, rfl, by rw [e0.out]; simp, rfl⟩
    case round =>
      obtain ⟨j, hj, rfl, rfl, rfl⟩ := hrel
      by_cases hlt : j < lk
      · have hji : (j : Int) < (lk : Int) := by omega
        have hjV : j < V.length := by omega
        obtain ⟨b, off, rfl, hb, hcell⟩ := HV.out.at j (by simp; omega)
        have hcell' : (w.alloc (.cells #[.bool true, .slice ak lk ck, .slice (some ⟨b, off, none⟩) lk cv, .slice ac lc cc] 26)).cell? ⟨b, off + j, none⟩ = some (.string V[j]) := by
          rw [World.cell?_alloc_lt _ _ _ hb, hcell]; simp
        have BT := Lib.hid (bytesV_take V j hjV)
        have t1 := TOT.out j
        have t2 := VB.out V[j] (List.getElem_mem hjV)
        generalize hvj : V[j] = x at *
        generalize bytesV (V.take j) = y at *
        clear hcell hb hvj
        go_wp2_with fail
        go_roundw
        case rel => exact ⟨j + 1, by omega, by go_num, by rw [BT.out]; go_num, by trivial⟩
        case measure => simp [intOf]; omega
      · obtain rfl : j = lk := by omega
        have hji : ¬ (j : Int) < (j : Int) := by omega
        go_wp2_with fail
        go_ret
        exact ⟨ret_int (by subst hvk; omega), (Below.refl _ _).alloc (Nat.le_refl _) _⟩
end Go.Proofs.Ytkdcoipbdkmieaa
