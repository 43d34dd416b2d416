/-
  Package bailiwicklaw10: examples.
-/
import Derived.Test.YtkdcoipbdkmieaaNodeDe
import Derived.Test.YtkdcoipbdkmieaaNodeEn
import Derived.Test.YtkdcoipbdkmieaaNodeN
import Derived.Test.YtkdcoipbdkmieaaHeld
namespace Go.Proofs.Ytkdcoipbdkmieaa
open Go.RowKit
set_option linter.unusedVariables false
set_option linter.unusedSimpArgs false
def exN : Nod := ⟨true, [7], [⟨#[97, 98, 99]⟩], []⟩
def exL (j : Nat) : ByteArray := if j = 0 then ⟨#[0, 0, 0, 0, 0, 0, 0, 7, 3, 97, 98, 99]⟩ else ⟨#[]⟩
def exM (_ : Nat) : ByteArray := ⟨#[3, 97, 98, 99]⟩
theorem exN_ok : NodOk exN := by
  refine ⟨by decide, by decide, by decide, ?_, ?_, ?_⟩
  · intro x hx; simp [exN] at hx; omega
  · intro x hx; simp [exN] at hx; subst hx; decide
  · intro x hx; simp [exN] at hx
theorem exN_rise : ∀ i (h : i + 1 < exN.K.length), exN.K[i] < exN.K[i + 1] := fun i h => absurd h (by simp [exN])
theorem exN_v : ∀ v ∈ exN.V, v.size ≤ 40 := by intro x hx; simp [exN] at hx; subst hx; decide
theorem exN_bytes : Str (encJ exN.K exN.V exN.K.length) = ⟨#[1, 0, 0, 0, 0, 0, 0, 0, 7, 3, 97, 98, 99]⟩ := by kernel_rfl
theorem exN_step : ∀ j (h1 : j < exN.K.length) (h2 : j < exN.V.length), exL j ≠ ⟨#[]⟩ ∧ takeN (exL j) 8 = exN.K[j] ∧ takeR (exL j) 8 = exM j ∧ takeE (exL j) 8 = 0 ∧ ttS (exM j) = exN.V[j] ∧ ttR (exM j) = exL (j + 1) ∧ ttE (exM j) = 0 ∧ (exM j).size ≤ 9223372036854775807 ∧ (exL (j + 1)).size < (exL j).size := by
  intro j h1 h2
  obtain rfl : j = 0 := by simp [exN] at h1; omega
  exact ⟨by decide, by kernel_rfl, by kernel_rfl, by kernel_rfl, by kernel_rfl, by kernel_rfl, by kernel_rfl, by decide, by decide⟩
theorem ex_encode (w : World) (ak av ac : Option Addr) (ck cv cc : Nat) (h : NodR w exN ak av ac ck cv cc) :
    Calls Try.prog 31 #[.agg #[.bool true, .slice ak 1 ck, .slice av 1 cv, .slice ac 0 cc]] w fun e w' => e = .returned (.tuple #[.string ⟨#[1, 0, 0, 0, 0, 0, 0, 0, 7, 3, 97, 98, 99]⟩, .int .i64 0]) ∧ Below w.heap.size w w' := by
  have := encode_leaf exN ak av ac ck cv cc w h (by kernel_rfl) exN_rise exN_v rfl (by decide) (by decide)
  rw [exN_bytes] at this
  exact this
theorem ex_decode (w : World) :
    Calls Try.prog 32 #[.string ⟨#[1, 0, 0, 0, 0, 0, 0, 0, 7, 3, 97, 98, 99]⟩] w fun e w' => DecBack w.heap.size exN e w' ∧ Below w.heap.size w w' :=
  decode_leaf ⟨#[1, 0, 0, 0, 0, 0, 0, 0, 7, 3, 97, 98, 99]⟩ exN.K exN.V exL exM w (by decide) (by decide) (by kernel_rfl) (by kernel_rfl) rfl exN_ok (by kernel_rfl) exN_step exN_rise exN_v (by decide) (by decide)
theorem ex_nodR (w : World) (x y : TypeId) (o : Obj) (w1 : World) (h : ((w.alloc (.cells #[.int .u64 7] x)).alloc (.cells #[.string ⟨#[97, 98, 99]⟩] y)).alloc o = w1) :
    NodR w1 exN (some ⟨w.heap.size, 0, none⟩) (some ⟨w.heap.size + 1, 0, none⟩) none 1 1 0 := by
  subst h
  have z1 : (w.alloc (.cells #[.int .u64 7] x)).heap.size = w.heap.size + 1 := by simp
  have r1 := ((Rd.made w #[.int .u64 7] x).below (below_made _ (.cells #[.string ⟨#[97, 98, 99]⟩] y))).below (below_made _ o)
  have r2 := (Rd.made (w.alloc (.cells #[.int .u64 7] x)) #[.string ⟨#[97, 98, 99]⟩] y).below (below_made _ o)
  rw [z1] at r2
  exact ⟨r1, r2, .inl rfl, Nat.le_refl _, by decide, Nat.le_refl _, by decide, Nat.le_refl _, by decide, exN_ok⟩
set_option maxHeartbeats 3200000 in
set_option maxRecDepth 20000 in
theorem examples_yes (w : World) : Calls Try.prog 10 #[] w fun e w' => e = .returned (.bool true) ∧ Below w.heap.size w w' := by
  have ENC := Lib.hid (fun w' (h : NodR w' exN (some ⟨w.heap.size, 0, none⟩) (some ⟨w.heap.size + 1, 0, none⟩) none 1 1 0) => ex_encode w' _ _ _ _ _ _ h)
  have DEC := Lib.hid ex_decode
  have REF : Hid (∀ w', Calls Try.prog 18 #[.agg #[.bool true, .slice (some ⟨w.heap.size, 0, none⟩) 1 1, .slice (some ⟨w.heap.size + 1, 0, none⟩) 1 1, .slice none 0 0]] w' fun e w'' => e = .returned (.agg #[.bool true, .slice (some ⟨w.heap.size, 0, none⟩) 1 1, .slice (some ⟨w.heap.size + 1, 0, none⟩) 1 1, .slice none 0 0]) ∧ Below w'.heap.size w' w'') := Lib.hid (fun w' => ref_is exN (some ⟨w.heap.size, 0, none⟩) (some ⟨w.heap.size + 1, 0, none⟩) none 1 1 0 w')
  have FND : Hid (∀ w' (h : NodR w' exN (some ⟨w.heap.size, 0, none⟩) (some ⟨w.heap.size + 1, 0, none⟩) none 1 1 0), Calls Try.prog 12 #[.agg #[.bool true, .slice (some ⟨w.heap.size, 0, none⟩) 1 1, .slice (some ⟨w.heap.size + 1, 0, none⟩) 1 1, .slice none 0 0], .int .u64 7] w' fun e w'' => e = .returned (.tuple #[.int .i64 0, .bool true]) ∧ Below w'.heap.size w' w'') := Lib.hid (fun w' h => find_is exN (some ⟨w.heap.size, 0, none⟩) (some ⟨w.heap.size + 1, 0, none⟩) none 1 1 0 w' h 7 0 true (Lib.hid (by kernel_rfl)))
  have SIZ : Hid (∀ w' (h : NodR w' exN (some ⟨w.heap.size, 0, none⟩) (some ⟨w.heap.size + 1, 0, none⟩) none 1 1 0), Calls Try.prog 33 #[.agg #[.bool true, .slice (some ⟨w.heap.size, 0, none⟩) 1 1, .slice (some ⟨w.heap.size + 1, 0, none⟩) 1 1, .slice none 0 0]] w' fun e w'' => e = .returned (.int .i64 13) ∧ Below w'.heap.size w' w'') := Lib.hid (fun w' h => size_is exN (some ⟨w.heap.size, 0, none⟩) (some ⟨w.heap.size + 1, 0, none⟩) none 1 1 0 w' h 13 (Lib.hid (by kernel_rfl)) (by kernel_rfl))
  have z1 : (w.alloc (.cells #[.int .u64 7] 27)).heap.size = w.heap.size + 1 := by simp
  have z2 : ((w.alloc (.cells #[.int .u64 7] 27)).alloc (.cells #[.string ⟨#[97, 98, 99]⟩] 9)).heap.size = w.heap.size + 1 + 1 := by simp
  obtain ⟨w1, hw1⟩ : ∃ w1, ((w.alloc (.cells #[.int .u64 7] 27)).alloc (.cells #[.string ⟨#[97, 98, 99]⟩] 9)).alloc (.cells #[.bool true, .slice (some ⟨w.heap.size, 0, none⟩) 1 1, .slice (some ⟨w.heap.size + 1, 0, none⟩) 1 1, .slice none 0 0] 26) = w1 := ⟨_, rfl⟩
  have R1 := Lib.hid (ex_nodR w _ _ _ w1 hw1)
  have X1 : Hid (w1.heap[w.heap.size + 1 + 1]? = some (.cells #[.bool true, .slice (some ⟨w.heap.size, 0, none⟩) 1 1, .slice (some ⟨w.heap.size + 1, 0, none⟩) 1 1, .slice none 0 0] 26)) := Lib.hid (by rw [← hw1, ← z2]; exact heap_alloc_new _ _)
  have B1 : Hid (Below w.heap.size w w1) := Lib.hid (by rw [← hw1]; exact (((Below.refl _ _).alloc (Nat.le_refl _) _).alloc (by simp) _).alloc (by rw [z2]; omega) _)
  have HW1 := Lib.hid hw1
  have b0 : Hid (Below w1.heap.size w1 w1) := Lib.hid (Below.refl _ _)
  clear hw1 z1 z2
  go_enter Try.func10, Try.ntmps10
  go_wp2_with fail
  rw [HW1.out]
  have y0 : w1.cell? ⟨w.heap.size + 1 + 1, 0, none⟩ = some (.bool true) := by rw [Go.Joins.cell_of_block X1.out]; rfl
  have y1 : w1.cell? ⟨w.heap.size + 1 + 1, 1, none⟩ = some (.slice (some ⟨w.heap.size, 0, none⟩) 1 1) := by rw [Go.Joins.cell_of_block X1.out]; rfl
  have y2 : w1.cell? ⟨w.heap.size + 1 + 1, 2, none⟩ = some (.slice (some ⟨w.heap.size + 1, 0, none⟩) 1 1) := by rw [Go.Joins.cell_of_block X1.out]; rfl
  have y3 : w1.cell? ⟨w.heap.size + 1 + 1, 3, none⟩ = some (.slice none 0 0) := by rw [Go.Joins.cell_of_block X1.out]; rfl
  go_wp2_with fail
  refine (ENC.out _ R1.out).mono ?_
  rintro e w2 ⟨rfl, b2⟩
  go_wp2_with fail
  refine (DEC.out _).mono ?_
  rintro e w3 ⟨⟨bk, bv, bc, dk, dv, dc, rfl, hR3, q1, q2, q3⟩, b3⟩
  have D3 : Hid (NodR w3 exN bk bv bc dk dv dc) := Lib.hid hR3
  have B13 := Lib.hid (chain b2 b3)
  clear b2 b3 hR3 q1 q2 q3 y0 y1 y2 y3
  simp only [nodV, exN, List.length_cons, List.length_nil, Nat.zero_add]
  go_wp2_with fail
  obtain ⟨w4, hw4⟩ : ∃ w4, w3.alloc (.cells #[.bool true, .slice bk 1 dk, .slice bv 1 dv, .slice bc 0 dc] 26) = w4 := ⟨_, rfl⟩
  rw [hw4]
  have B34 : Below w3.heap.size w3 w4 := by rw [← hw4]; exact below_made _ _
  have HX2 : Hid (w4.heap[w3.heap.size]? = some (.cells #[.bool true, .slice bk 1 dk, .slice bv 1 dv, .slice bc 0 dc] 26)) := Lib.hid (by rw [← hw4]; exact heap_alloc_new _ _)
  have HX1 := Lib.hid (kept (kept X1.out B13.out) B34)
  have RA := Lib.hid ((R1.out.below B13.out).below B34)
  have RB := Lib.hid (D3.out.below B34)
  have B4 := Lib.hid (chain (chain B1.out B13.out) B34)
  have NDS : Hid (∀ w', Below w4.heap.size w4 w' → Calls Try.prog 20 #[.agg #[.bool true, .slice bk 1 dk, .slice bv 1 dv, .slice bc 0 dc], .agg #[.bool true, .slice (some ⟨w.heap.size, 0, none⟩) 1 1, .slice (some ⟨w.heap.size + 1, 0, none⟩) 1 1, .slice none 0 0]] w' fun e w'' => e = .returned (.bool true) ∧ Below w'.heap.size w' w'') := Lib.hid (fun w' hb => nodes_yes exN bk bv bc (some ⟨w.heap.size, 0, none⟩) (some ⟨w.heap.size + 1, 0, none⟩) none dk dv dc 1 1 0 w' (RB.out.below hb) (RA.out.below hb))
  clear hw4 B34 HW1 ENC DEC b0
  go_wp2_with fail
  refine wp_region_held_drew (S := fun w' => Below w4.heap.size w4 w') (by kernel_rfl) (Below.refl w4.heap.size w4).drew (fun hS => ?_)
  refine held_take (i := 0) 22 (v := ?v0x1) rfl rfl (by kernel_rfl) (by kernel_rfl) (by kernel_rfl) (fun _ _ _ h => h) hS (by rfl) ?h0x1 ?r0x1
  case h0x1 =>
    intro w9 s9
    have X9 := kept HX2.out s9
    have c0 : w9.cell? ⟨w3.heap.size, 0, none⟩ = some (.bool true) := by rw [Go.Joins.cell_of_block X9]; rfl
    have c1 : w9.cell? ⟨w3.heap.size, 1, none⟩ = some (.slice bk 1 dk) := by rw [Go.Joins.cell_of_block X9]; rfl
    have c2 : w9.cell? ⟨w3.heap.size, 2, none⟩ = some (.slice bv 1 dv) := by rw [Go.Joins.cell_of_block X9]; rfl
    have c3 : w9.cell? ⟨w3.heap.size, 3, none⟩ = some (.slice bc 0 dc) := by rw [Go.Joins.cell_of_block X9]; rfl
    clear s9
    go_simp
    try (with_reducible rfl)
  simp only [List.setIfInBounds_toArray, List.set_cons_zero, List.set_cons_succ]
  refine held_take (i := 1) 23 (v := ?v1x2) rfl rfl (by kernel_rfl) (by kernel_rfl) (by kernel_rfl) (fun _ _ _ h => h) hS (by rfl) ?h1x2 ?r1x2
  case h1x2 =>
    intro w9 s9
    have X9 := kept HX1.out s9
    have c0 : w9.cell? ⟨w.heap.size + 1 + 1, 0, none⟩ = some (.bool true) := by rw [Go.Joins.cell_of_block X9]; rfl
    have c1 : w9.cell? ⟨w.heap.size + 1 + 1, 1, none⟩ = some (.slice (some ⟨w.heap.size, 0, none⟩) 1 1) := by rw [Go.Joins.cell_of_block X9]; rfl
    have c2 : w9.cell? ⟨w.heap.size + 1 + 1, 2, none⟩ = some (.slice (some ⟨w.heap.size + 1, 0, none⟩) 1 1) := by rw [Go.Joins.cell_of_block X9]; rfl
    have c3 : w9.cell? ⟨w.heap.size + 1 + 1, 3, none⟩ = some (.slice none 0 0) := by rw [Go.Joins.cell_of_block X9]; rfl
    clear s9
    go_simp
    try (with_reducible rfl)
  simp only [List.setIfInBounds_toArray, List.set_cons_zero, List.set_cons_succ]
  refine held_step (i := 2) rfl (by kernel_rfl) (fun K hK => ?_)
  have HK := Lib.hid hK
  clear hK
  go_simp
  go_wp2_with fail
  refine (REF.out _).mono ?_
  rintro e v5 ⟨rfl, b5⟩
  refine HK.out _ _ ?_ ?_
  · exact chain hS b5
  clear HK K
  try simp only [Act.put, List.setIfInBounds_toArray, List.set_cons_zero, List.set_cons_succ]
  have hS9 := chain hS b5
  clear hS
  have hS := hS9
  clear hS9 b5
  refine held_step (i := 3) rfl (by kernel_rfl) (fun K hK => ?_)
  have HK := Lib.hid hK
  clear hK
  go_simp
  go_wp2_with fail
  refine (NDS.out _ hS).mono ?_
  rintro e v6 ⟨rfl, b6⟩
  refine HK.out _ _ ?_ ?_
  · exact chain hS b6
  clear HK K
  try simp only [Act.put, List.setIfInBounds_toArray, List.set_cons_zero, List.set_cons_succ]
  have hS9 := chain hS b6
  clear hS
  have hS := hS9
  clear hS9 b6
  refine held_take (i := 4) 6 (v := ?v4x3) rfl rfl (by kernel_rfl) (by kernel_rfl) (by kernel_rfl) (fun _ _ _ h => h) hS (by rfl) ?h4x3 ?r4x3
  case h4x3 =>
    intro w9 s9
    clear s9
    go_simp
    try (with_reducible rfl)
  simp only [List.setIfInBounds_toArray, List.set_cons_zero, List.set_cons_succ]
  refine wpAnyH_done (by kernel_rfl) ?_ _
  have HS5 := Lib.hid hS
  clear hS
  have X6 := kept HX1.out HS5.out
  have y0 : v6.cell? ⟨w.heap.size + 1 + 1, 0, none⟩ = some (.bool true) := by rw [Go.Joins.cell_of_block X6]; rfl
  have y1 : v6.cell? ⟨w.heap.size + 1 + 1, 1, none⟩ = some (.slice (some ⟨w.heap.size, 0, none⟩) 1 1) := by rw [Go.Joins.cell_of_block X6]; rfl
  have y2 : v6.cell? ⟨w.heap.size + 1 + 1, 2, none⟩ = some (.slice (some ⟨w.heap.size + 1, 0, none⟩) 1 1) := by rw [Go.Joins.cell_of_block X6]; rfl
  have y3 : v6.cell? ⟨w.heap.size + 1 + 1, 3, none⟩ = some (.slice none 0 0) := by rw [Go.Joins.cell_of_block X6]; rfl
  go_wp2_with fail
  refine (FND.out _ (RA.out.below HS5.out)).mono ?_
  rintro e w7 ⟨rfl, b7⟩
  have B47 := Lib.hid (chain HS5.out b7)
  have X7 := kept HX1.out B47.out
  have z0 : w7.cell? ⟨w.heap.size + 1 + 1, 0, none⟩ = some (.bool true) := by rw [Go.Joins.cell_of_block X7]; rfl
  have z1 : w7.cell? ⟨w.heap.size + 1 + 1, 1, none⟩ = some (.slice (some ⟨w.heap.size, 0, none⟩) 1 1) := by rw [Go.Joins.cell_of_block X7]; rfl
  have z2 : w7.cell? ⟨w.heap.size + 1 + 1, 2, none⟩ = some (.slice (some ⟨w.heap.size + 1, 0, none⟩) 1 1) := by rw [Go.Joins.cell_of_block X7]; rfl
  have z3 : w7.cell? ⟨w.heap.size + 1 + 1, 3, none⟩ = some (.slice none 0 0) := by rw [Go.Joins.cell_of_block X7]; rfl
  clear b7 X6 y0 y1 y2 y3
  go_wp2_with fail
  refine (SIZ.out _ (RA.out.below B47.out)).mono ?_
  rintro e w8 ⟨rfl, b8⟩
  have FIN := Lib.hid (chain B4.out (chain B47.out b8))
  clear b8 X7 z0 z1 z2 z3
  go_wp2_with fail
  go_ret
  exact ⟨rfl, FIN.out⟩
end Go.Proofs.Ytkdcoipbdkmieaa
