import Derived.Test.YtjicpdkdkakfdaaEx03
import Derived.Outline
namespace Go.Proofs.Ytjicpdkdkakfdaa
open Go.RowKit
set_option linter.unusedVariables false

/-- A slice that a literal made, as a text. -/
theorem conv_lit (w : World) (l : List UInt8) (cells : Array Value) (o : Obj) (hw : ∀ j (h : j < l.length), (w.alloc o).cell? ⟨w.heap.size, j, none⟩ = some (.int .u8 ((l[j]).toNat : Int))) (n cap : Nat) (hn : l.length = n) :
    (convert 26 9 (.slice (some ⟨w.heap.size, 0, none⟩) n cap)).run Try.prog (w.alloc o) = .ok (.string (Str l)) (w.alloc o) := by
  subst hn
  exact run_convert_bytes_back (P := Try.prog) (w.alloc o) 26 9 5 ⟨w.heap.size, 0, none⟩ cap l Try.underlying26 Try.underlying5 Try.underlying9 (fun j hj => by rw [addr_add]; simpa using hw j hj)
theorem conv_one (w : World) (x : UInt8) (z : Int) (hz : (x.toNat : Int) = z) :
    (convert 26 9 (.slice (some ⟨w.heap.size, 0, none⟩) 1 1)).run Try.prog (w.alloc (.cells #[.int .u8 z] 5)) = .ok (.string (Str [x])) (w.alloc (.cells #[.int .u8 z] 5)) := by
  subst hz
  refine conv_lit w [x] #[] _ (fun j hj => ?_) 1 1 rfl
  obtain rfl : j = 0 := by simp at hj; exact hj
  rw [World.cell?_alloc_new]
  rfl
set_option maxHeartbeats 1600000 in
theorem shaKnown_walk (c : UInt8) (z : Int) (hz : (c.toNat : Int) = z) (w : World) :
    Calls Try.prog 5 #[.int .u8 z] w fun e w' => e = .returned (.bool true) ∧ Below w.heap.size w w' := by
  have hcv := fun w : World => conv_one w c z hz
  go_enter Try.func5, Try.ntmps5
  try simp only [List.append_eq, List.cons_append, List.nil_append]
  go_wp2_with fail
  refine (examples_any _).mono ?_
  rintro e w1 ⟨rfl, bb⟩
  go_wp2_with fail
  refine (sum_is _ _ (by decide)).mono ?_
  rw [sum_none]
  rintro e w2 ⟨rfl, b2⟩
  replace bb := chain bb b2
  clear b2
  go_wp2_with fail
  refine (hex_is _ _ (by decide)).mono ?_
  rw [hex_none]
  rintro e w2 ⟨rfl, b2⟩
  replace bb := chain bb b2
  clear b2
  go_wp2_with fail
  refine (sum_is _ _ (by decide)).mono ?_
  rw [sum_long]
  rintro e w2 ⟨rfl, b2⟩
  replace bb := chain bb b2
  clear b2
  go_wp2_with fail
  refine (hex_is _ _ (by decide)).mono ?_
  rw [hex_long]
  rintro e w2 ⟨rfl, b2⟩
  replace bb := chain bb b2
  clear b2
  go_wp2_with fail
  have hs2 : (hexB (Str [c])).size = 2 := by rw [hexB_size, Str_size]; rfl
  refine (hex_is _ _ (by rw [Str_size, List.length_singleton]; decide)).mono ?_
  generalize hexB (Str [c]) = d at *
  rintro e w2 ⟨rfl, b2⟩
  replace bb := chain (bb.alloc bb.size _) b2
  clear b2
  go_wp2_with fail
  go_ret
  exact ⟨rfl, bb⟩
theorem shaKnown_law (a0 : Int) (w : World) (w0 : (Lit.int .u8 a0).wf = true) :
    Calls Try.prog 5 #[.int .u8 a0] w fun e w' => e = .returned (.bool true) ∧ Below w.heap.size w w' := by
  have h0 := bounds_u8 w0
  exact shaKnown_walk (UInt8.ofNat a0.toNat) a0 (by have : (UInt8.ofNat a0.toNat).toNat = a0.toNat % 256 := rfl; omega) w
end Go.Proofs.Ytjicpdkdkakfdaa
