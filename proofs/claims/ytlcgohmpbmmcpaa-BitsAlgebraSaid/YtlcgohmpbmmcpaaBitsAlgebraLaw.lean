import Derived.Test.YtlcgohmpbmmcpaaRefMore
namespace Go.Proofs.Ytlcgohmpbmmcpaa
open Go.RowKit
set_option linter.unusedVariables false

/-- What the walk is told of two texts of one length. -/
structure Alg (c d J L M Z : ByteArray) (pj pm pc pd : Nat) : Prop where
  j : mergeB (· ||| ·) c d = J
  l : mergeB lessN c d = L
  m : mergeB lessN c L = M
  z : mergeB lessN c c = Z
  j2 : mergeB (· ||| ·) d c = J
  jc : mergeB (· ||| ·) c c = c
  l2 : mergeB lessN J d = L
  jm : mergeB (· ||| ·) L M = c
  cj : cntL J.data.toList = pj
  cm : cntL M.data.toList = pm
  cc : cntL c.data.toList = pc
  cd : cntL d.data.toList = pd
  cz : cntL Z.data.toList = 0
  sum : pj + pm = pc + pd
  sj : J.size = c.size
  sl : L.size = c.size
  sm : M.size = c.size
  sz : Z.size = c.size
theorem hasB_nat_add (a b c d : ByteArray) (n : Nat) (h : ∀ i : Nat, i < n → ((hasB a (i : Int)).toNat + (hasB b (i : Int)).toNat = (hasB c (i : Int)).toNat + (hasB d (i : Int)).toNat)) :
    cntU a.data.toList n + cntU b.data.toList n = cntU c.data.toList n + cntU d.data.toList n := by
  induction n with
  | zero => rfl
  | succ n ih =>
    have h1 := ih (fun i hi => h i (by omega))
    have h2 := h n (by omega)
    rw [cntU_step a n _ rfl, cntU_step b n _ rfl, cntU_step c n _ rfl, cntU_step d n _ rfl]
    have e : ∀ v : Bool, (if v = true then 1 else 0) = v.toNat := fun v => by cases v <;> rfl
    rw [e, e, e, e]
    omega
theorem cnt_of (a : ByteArray) (n : Nat) (h : a.size = n) : cntL a.data.toList = cntU a.data.toList (8 * n) := by
  rw [← cntU_all]; simp [h]
theorem alg_of (c d : ByteArray) (h : c.size = d.size) : Alg c d (mergeB (· ||| ·) c d) (mergeB lessN c d) (mergeB lessN c (mergeB lessN c d)) (mergeB lessN c c) (cntL (mergeB (· ||| ·) c d).data.toList) (cntL (mergeB lessN c (mergeB lessN c d)).data.toList) (cntL c.data.toList) (cntL d.data.toList) where
  j := rfl
  l := rfl
  m := rfl
  z := rfl
  j2 := bits_ext (by rw [mergeB_size, mergeB_size, h]) fun i hi => by rw [mergeB_size] at hi; rw [has_join _ _ _ hi, has_join _ _ _ (by omega), Bool.or_comm]
  jc := bits_ext (by rw [mergeB_size]) fun i hi => by rw [mergeB_size] at hi; rw [has_join _ _ _ hi, Bool.or_self]
  l2 := bits_ext (by rw [mergeB_size, mergeB_size, mergeB_size]) fun i hi => by
    rw [mergeB_size, mergeB_size] at hi
    rw [has_less _ _ _ (by rw [mergeB_size]; exact hi), has_join _ _ _ hi, has_less _ _ _ hi]
    cases hasB c (i : Int) <;> cases hasB d (i : Int) <;> rfl
  jm := bits_ext (by rw [mergeB_size, mergeB_size]) fun i hi => by
    rw [mergeB_size, mergeB_size] at hi
    rw [has_join _ _ _ (by rw [mergeB_size]; exact hi), has_less _ _ _ hi, has_less _ _ _ hi, has_less _ _ _ hi]
    cases hasB c (i : Int) <;> cases hasB d (i : Int) <;> rfl
  cj := rfl
  cm := rfl
  cc := rfl
  cd := rfl
  cz := by
    rw [cnt_of _ c.size (mergeB_size _ _ _)]
    have := hasB_nat_add (mergeB lessN c c) (mergeB lessN c c) (Str []) (Str []) (8 * c.size) (fun i hi => by
      rw [has_less _ _ _ hi]
      have e : hasB (Str []) (i : Int) = false := by simp [hasB, bitL, Str]
      rw [e]
      cases hasB c (i : Int) <;> rfl)
    have z : ∀ n, cntU (Str []).data.toList n = 0 := fun n => by
      induction n with
      | zero => rfl
      | succ n ih => rw [cntU, ih]; simp [bitL, Str]
    rw [z] at this
    omega
  sum := by
    rw [cnt_of _ c.size (mergeB_size _ _ _), cnt_of (mergeB lessN c _) c.size (mergeB_size _ _ _), cnt_of c c.size rfl, cnt_of d c.size h.symm]
    apply hasB_nat_add
    intro i hi
    rw [has_join _ _ _ hi, has_less _ _ _ hi, has_less _ _ _ hi]
    cases hasB c (i : Int) <;> cases hasB d (i : Int) <;> rfl
  sj := mergeB_size _ _ _
  sl := mergeB_size _ _ _
  sm := mergeB_size _ _ _
  sz := mergeB_size _ _ _
set_option maxHeartbeats 3200000 in
theorem bitsAlgebra_a (a b c d J L M Z : ByteArray) (pj pm pc pd : Nat) (w : World) (ha : a.size ≤ 140737488351232) (hb : b.size ≤ 140737488351232) (hd : Hid (b.extract 0 a.size = d)) (ds : d.size ≤ 100) (hab : (a.size : Int) ≤ (b.size : Int)) (h100 : (a.size : Int) ≤ 100) (H : Alg a d J L M Z pj pm pc pd) :
    Calls Try.prog 7 #[.string a, .string b] w fun e w' => e = .returned (.bool true) ∧ Below w.heap.size w w' := by
  have sum := H.sum
  have sj : J.size ≤ 100 := by have := H.sj; omega
  have sl : L.size ≤ 100 := by have := H.sl; omega
  have sm : M.size ≤ 100 := by have := H.sm; omega
  have sz : Z.size ≤ 100 := by have := H.sz; omega
  have bj : pj ≤ 800 := by rw [← H.cj]; have := cntL_le J.data.toList; rw [size_list] at this; omega
  have bm : pm ≤ 800 := by rw [← H.cm]; have := cntL_le M.data.toList; rw [size_list] at this; omega
  have bc : pc ≤ 800 := by rw [← H.cc]; have := cntL_le a.data.toList; rw [size_list] at this; omega
  have bd : pd ≤ 800 := by rw [← H.cd]; have := cntL_le d.data.toList; rw [size_list] at this; omega
  have HH := Lib.hid H
  have SUM := Lib.hid sum
  clear H sum
  go_enter Try.func7, Try.ntmps7
  try simp only [List.append_eq, List.cons_append, List.nil_append]
  go_wp2_with fail
  refine (examples_any _).mono ?_
  rintro e w1 ⟨rfl, bb⟩
  go_wp2_with fail
  rw [hd.out]
  refine (join_any _ _ _ (by omega) (by omega)).mono ?_
  rw [HH.out.j]
  rintro e w9 ⟨rfl, b9⟩
  replace bb := chain bb b9
  clear b9
  go_wp2_with fail
  refine (less_any _ _ _ (by omega) (by omega)).mono ?_
  rw [HH.out.l]
  rintro e w9 ⟨rfl, b9⟩
  replace bb := chain bb b9
  clear b9
  go_wp2_with fail
  refine (less_any _ _ _ (by omega) (by omega)).mono ?_
  rw [HH.out.m]
  rintro e w9 ⟨rfl, b9⟩
  replace bb := chain bb b9
  clear b9
  go_wp2_with fail
  refine (count_any _ _ (by omega)).mono ?_
  rw [HH.out.cj]
  rintro e w9 ⟨rfl, rfl⟩
  go_wp2_with fail
  refine (count_any _ _ (by omega)).mono ?_
  rw [HH.out.cm]
  rintro e w9 ⟨rfl, rfl⟩
  go_wp2_with fail
  refine (count_any _ _ (by omega)).mono ?_
  rw [HH.out.cc]
  rintro e w9 ⟨rfl, rfl⟩
  go_wp2_with fail
  refine (count_any _ _ (by omega)).mono ?_
  rw [HH.out.cd]
  rintro e w9 ⟨rfl, rfl⟩
  go_wp2_with fail
  have he : ((pj : Int) + (pm : Int) == (pc : Int) + (pd : Int)) = true := by have := SUM.out; simp; omega
  go_wp2_with fail
  all_goals try (exfalso; have := SUM.out; omega)
  refine (join_any _ _ _ (by omega) (by omega)).mono ?_
  rw [HH.out.j2]
  rintro e w9 ⟨rfl, b9⟩
  replace bb := chain bb b9
  clear b9
  go_wp2_with fail
  refine (less_any _ _ _ (by omega) (by omega)).mono ?_
  rw [HH.out.z]
  rintro e w9 ⟨rfl, b9⟩
  replace bb := chain bb b9
  clear b9
  go_wp2_with fail
  refine (count_any _ _ (by omega)).mono ?_
  rw [HH.out.cz]
  rintro e w9 ⟨rfl, rfl⟩
  go_wp2_with fail
  refine (join_any _ _ _ (by omega) (by omega)).mono ?_
  rw [HH.out.jc]
  rintro e w9 ⟨rfl, b9⟩
  replace bb := chain bb b9
  clear b9
  go_wp2_with fail
  refine (less_any _ _ _ (by omega) (by omega)).mono ?_
  rw [HH.out.l2]
  rintro e w9 ⟨rfl, b9⟩
  replace bb := chain bb b9
  clear b9
  go_wp2_with fail
  refine (less_any _ _ _ (by omega) (by omega)).mono ?_
  rw [HH.out.l]
  rintro e w9 ⟨rfl, b9⟩
  replace bb := chain bb b9
  clear b9
  go_wp2_with fail
  refine (less_any _ _ _ (by omega) (by omega)).mono ?_
  rw [HH.out.l]
  rintro e w9 ⟨rfl, b9⟩
  replace bb := chain bb b9
  clear b9
  go_wp2_with fail
  refine (join_any _ _ _ (by omega) (by omega)).mono ?_
  rw [HH.out.jm]
  rintro e w9 ⟨rfl, b9⟩
  replace bb := chain bb b9
  clear b9
  go_wp2_with fail
  go_ret
  refine ⟨ret_true ?_, bb⟩
  first | (simp; done) | (simp; omega)
set_option maxHeartbeats 3200000 in
theorem bitsAlgebra_b (a b c d J L M Z : ByteArray) (pj pm pc pd : Nat) (w : World) (ha : a.size ≤ 140737488351232) (hb : b.size ≤ 140737488351232) (hc : Hid (a.extract 0 b.size = c)) (cs : c.size ≤ 100) (hab : (b.size : Int) < (a.size : Int)) (h100 : (b.size : Int) ≤ 100) (H : Alg c b J L M Z pj pm pc pd) :
    Calls Try.prog 7 #[.string a, .string b] w fun e w' => e = .returned (.bool true) ∧ Below w.heap.size w w' := by
  have sum := H.sum
  have sj : J.size ≤ 100 := by have := H.sj; omega
  have sl : L.size ≤ 100 := by have := H.sl; omega
  have sm : M.size ≤ 100 := by have := H.sm; omega
  have sz : Z.size ≤ 100 := by have := H.sz; omega
  have bj : pj ≤ 800 := by rw [← H.cj]; have := cntL_le J.data.toList; rw [size_list] at this; omega
  have bm : pm ≤ 800 := by rw [← H.cm]; have := cntL_le M.data.toList; rw [size_list] at this; omega
  have bc : pc ≤ 800 := by rw [← H.cc]; have := cntL_le c.data.toList; rw [size_list] at this; omega
  have bd : pd ≤ 800 := by rw [← H.cd]; have := cntL_le b.data.toList; rw [size_list] at this; omega
  have HH := Lib.hid H
  have SUM := Lib.hid sum
  clear H sum
  go_enter Try.func7, Try.ntmps7
  try simp only [List.append_eq, List.cons_append, List.nil_append]
  go_wp2_with fail
  refine (examples_any _).mono ?_
  rintro e w1 ⟨rfl, bb⟩
  go_wp2_with fail
  rw [hc.out]
  refine (join_any _ _ _ (by omega) (by omega)).mono ?_
  rw [HH.out.j]
  rintro e w9 ⟨rfl, b9⟩
  replace bb := chain bb b9
  clear b9
  go_wp2_with fail
  refine (less_any _ _ _ (by omega) (by omega)).mono ?_
  rw [HH.out.l]
  rintro e w9 ⟨rfl, b9⟩
  replace bb := chain bb b9
  clear b9
  go_wp2_with fail
  refine (less_any _ _ _ (by omega) (by omega)).mono ?_
  rw [HH.out.m]
  rintro e w9 ⟨rfl, b9⟩
  replace bb := chain bb b9
  clear b9
  go_wp2_with fail
  refine (count_any _ _ (by omega)).mono ?_
  rw [HH.out.cj]
  rintro e w9 ⟨rfl, rfl⟩
  go_wp2_with fail
  refine (count_any _ _ (by omega)).mono ?_
  rw [HH.out.cm]
  rintro e w9 ⟨rfl, rfl⟩
  go_wp2_with fail
  refine (count_any _ _ (by omega)).mono ?_
  rw [HH.out.cc]
  rintro e w9 ⟨rfl, rfl⟩
  go_wp2_with fail
  refine (count_any _ _ (by omega)).mono ?_
  rw [HH.out.cd]
  rintro e w9 ⟨rfl, rfl⟩
  go_wp2_with fail
  have he : ((pj : Int) + (pm : Int) == (pc : Int) + (pd : Int)) = true := by have := SUM.out; simp; omega
  go_wp2_with fail
  all_goals try (exfalso; have := SUM.out; omega)
  refine (join_any _ _ _ (by omega) (by omega)).mono ?_
  rw [HH.out.j2]
  rintro e w9 ⟨rfl, b9⟩
  replace bb := chain bb b9
  clear b9
  go_wp2_with fail
  refine (less_any _ _ _ (by omega) (by omega)).mono ?_
  rw [HH.out.z]
  rintro e w9 ⟨rfl, b9⟩
  replace bb := chain bb b9
  clear b9
  go_wp2_with fail
  refine (count_any _ _ (by omega)).mono ?_
  rw [HH.out.cz]
  rintro e w9 ⟨rfl, rfl⟩
  go_wp2_with fail
  refine (join_any _ _ _ (by omega) (by omega)).mono ?_
  rw [HH.out.jc]
  rintro e w9 ⟨rfl, b9⟩
  replace bb := chain bb b9
  clear b9
  go_wp2_with fail
  refine (less_any _ _ _ (by omega) (by omega)).mono ?_
  rw [HH.out.l2]
  rintro e w9 ⟨rfl, b9⟩
  replace bb := chain bb b9
  clear b9
  go_wp2_with fail
  refine (less_any _ _ _ (by omega) (by omega)).mono ?_
  rw [HH.out.l]
  rintro e w9 ⟨rfl, b9⟩
  replace bb := chain bb b9
  clear b9
  go_wp2_with fail
  refine (less_any _ _ _ (by omega) (by omega)).mono ?_
  rw [HH.out.l]
  rintro e w9 ⟨rfl, b9⟩
  replace bb := chain bb b9
  clear b9
  go_wp2_with fail
  refine (join_any _ _ _ (by omega) (by omega)).mono ?_
  rw [HH.out.jm]
  rintro e w9 ⟨rfl, b9⟩
  replace bb := chain bb b9
  clear b9
  go_wp2_with fail
  go_ret
  refine ⟨ret_true ?_, bb⟩
  first | (simp; done) | (simp; omega)
set_option maxHeartbeats 3200000 in
theorem bitsAlgebra_c (a b c d J L M Z : ByteArray) (pj pm pc pd : Nat) (w : World) (ha : a.size ≤ 140737488351232) (hb : b.size ≤ 140737488351232) (hc : Hid (a.extract 0 100 = c)) (cs : c.size ≤ 100) (hd : Hid (b.extract 0 100 = d)) (ds : d.size ≤ 100) (hab : (a.size : Int) ≤ (b.size : Int)) (h100 : 100 < (a.size : Int)) (H : Alg c d J L M Z pj pm pc pd) :
    Calls Try.prog 7 #[.string a, .string b] w fun e w' => e = .returned (.bool true) ∧ Below w.heap.size w w' := by
  have sum := H.sum
  have sj : J.size ≤ 100 := by have := H.sj; omega
  have sl : L.size ≤ 100 := by have := H.sl; omega
  have sm : M.size ≤ 100 := by have := H.sm; omega
  have sz : Z.size ≤ 100 := by have := H.sz; omega
  have bj : pj ≤ 800 := by rw [← H.cj]; have := cntL_le J.data.toList; rw [size_list] at this; omega
  have bm : pm ≤ 800 := by rw [← H.cm]; have := cntL_le M.data.toList; rw [size_list] at this; omega
  have bc : pc ≤ 800 := by rw [← H.cc]; have := cntL_le c.data.toList; rw [size_list] at this; omega
  have bd : pd ≤ 800 := by rw [← H.cd]; have := cntL_le d.data.toList; rw [size_list] at this; omega
  have HH := Lib.hid H
  have SUM := Lib.hid sum
  clear H sum
  go_enter Try.func7, Try.ntmps7
  try simp only [List.append_eq, List.cons_append, List.nil_append]
  go_wp2_with fail
  refine (examples_any _).mono ?_
  rintro e w1 ⟨rfl, bb⟩
  go_wp2_with fail
  rw [hc.out]
  rw [hd.out]
  refine (join_any _ _ _ (by omega) (by omega)).mono ?_
  rw [HH.out.j]
  rintro e w9 ⟨rfl, b9⟩
  replace bb := chain bb b9
  clear b9
  go_wp2_with fail
  refine (less_any _ _ _ (by omega) (by omega)).mono ?_
  rw [HH.out.l]
  rintro e w9 ⟨rfl, b9⟩
  replace bb := chain bb b9
  clear b9
  go_wp2_with fail
  refine (less_any _ _ _ (by omega) (by omega)).mono ?_
  rw [HH.out.m]
  rintro e w9 ⟨rfl, b9⟩
  replace bb := chain bb b9
  clear b9
  go_wp2_with fail
  refine (count_any _ _ (by omega)).mono ?_
  rw [HH.out.cj]
  rintro e w9 ⟨rfl, rfl⟩
  go_wp2_with fail
  refine (count_any _ _ (by omega)).mono ?_
  rw [HH.out.cm]
  rintro e w9 ⟨rfl, rfl⟩
  go_wp2_with fail
  refine (count_any _ _ (by omega)).mono ?_
  rw [HH.out.cc]
  rintro e w9 ⟨rfl, rfl⟩
  go_wp2_with fail
  refine (count_any _ _ (by omega)).mono ?_
  rw [HH.out.cd]
  rintro e w9 ⟨rfl, rfl⟩
  go_wp2_with fail
  have he : ((pj : Int) + (pm : Int) == (pc : Int) + (pd : Int)) = true := by have := SUM.out; simp; omega
  go_wp2_with fail
  all_goals try (exfalso; have := SUM.out; omega)
  refine (join_any _ _ _ (by omega) (by omega)).mono ?_
  rw [HH.out.j2]
  rintro e w9 ⟨rfl, b9⟩
  replace bb := chain bb b9
  clear b9
  go_wp2_with fail
  refine (less_any _ _ _ (by omega) (by omega)).mono ?_
  rw [HH.out.z]
  rintro e w9 ⟨rfl, b9⟩
  replace bb := chain bb b9
  clear b9
  go_wp2_with fail
  refine (count_any _ _ (by omega)).mono ?_
  rw [HH.out.cz]
  rintro e w9 ⟨rfl, rfl⟩
  go_wp2_with fail
  refine (join_any _ _ _ (by omega) (by omega)).mono ?_
  rw [HH.out.jc]
  rintro e w9 ⟨rfl, b9⟩
  replace bb := chain bb b9
  clear b9
  go_wp2_with fail
  refine (less_any _ _ _ (by omega) (by omega)).mono ?_
  rw [HH.out.l2]
  rintro e w9 ⟨rfl, b9⟩
  replace bb := chain bb b9
  clear b9
  go_wp2_with fail
  refine (less_any _ _ _ (by omega) (by omega)).mono ?_
  rw [HH.out.l]
  rintro e w9 ⟨rfl, b9⟩
  replace bb := chain bb b9
  clear b9
  go_wp2_with fail
  refine (less_any _ _ _ (by omega) (by omega)).mono ?_
  rw [HH.out.l]
  rintro e w9 ⟨rfl, b9⟩
  replace bb := chain bb b9
  clear b9
  go_wp2_with fail
  refine (join_any _ _ _ (by omega) (by omega)).mono ?_
  rw [HH.out.jm]
  rintro e w9 ⟨rfl, b9⟩
  replace bb := chain bb b9
  clear b9
  go_wp2_with fail
  go_ret
  refine ⟨ret_true ?_, bb⟩
  first | (simp; done) | (simp; omega)
set_option maxHeartbeats 3200000 in
theorem bitsAlgebra_e (a b c d J L M Z : ByteArray) (pj pm pc pd : Nat) (w : World) (ha : a.size ≤ 140737488351232) (hb : b.size ≤ 140737488351232) (hc : Hid (a.extract 0 100 = c)) (cs : c.size ≤ 100) (hd : Hid (b.extract 0 100 = d)) (ds : d.size ≤ 100) (hab : (b.size : Int) < (a.size : Int)) (h100 : 100 < (b.size : Int)) (H : Alg c d J L M Z pj pm pc pd) :
    Calls Try.prog 7 #[.string a, .string b] w fun e w' => e = .returned (.bool true) ∧ Below w.heap.size w w' := by
  have sum := H.sum
  have sj : J.size ≤ 100 := by have := H.sj; omega
  have sl : L.size ≤ 100 := by have := H.sl; omega
  have sm : M.size ≤ 100 := by have := H.sm; omega
  have sz : Z.size ≤ 100 := by have := H.sz; omega
  have bj : pj ≤ 800 := by rw [← H.cj]; have := cntL_le J.data.toList; rw [size_list] at this; omega
  have bm : pm ≤ 800 := by rw [← H.cm]; have := cntL_le M.data.toList; rw [size_list] at this; omega
  have bc : pc ≤ 800 := by rw [← H.cc]; have := cntL_le c.data.toList; rw [size_list] at this; omega
  have bd : pd ≤ 800 := by rw [← H.cd]; have := cntL_le d.data.toList; rw [size_list] at this; omega
  have HH := Lib.hid H
  have SUM := Lib.hid sum
  clear H sum
  go_enter Try.func7, Try.ntmps7
  try simp only [List.append_eq, List.cons_append, List.nil_append]
  go_wp2_with fail
  refine (examples_any _).mono ?_
  rintro e w1 ⟨rfl, bb⟩
  go_wp2_with fail
  rw [hc.out]
  rw [hd.out]
  refine (join_any _ _ _ (by omega) (by omega)).mono ?_
  rw [HH.out.j]
  rintro e w9 ⟨rfl, b9⟩
  replace bb := chain bb b9
  clear b9
  go_wp2_with fail
  refine (less_any _ _ _ (by omega) (by omega)).mono ?_
  rw [HH.out.l]
  rintro e w9 ⟨rfl, b9⟩
  replace bb := chain bb b9
  clear b9
  go_wp2_with fail
  refine (less_any _ _ _ (by omega) (by omega)).mono ?_
  rw [HH.out.m]
  rintro e w9 ⟨rfl, b9⟩
  replace bb := chain bb b9
  clear b9
  go_wp2_with fail
  refine (count_any _ _ (by omega)).mono ?_
  rw [HH.out.cj]
  rintro e w9 ⟨rfl, rfl⟩
  go_wp2_with fail
  refine (count_any _ _ (by omega)).mono ?_
  rw [HH.out.cm]
  rintro e w9 ⟨rfl, rfl⟩
  go_wp2_with fail
  refine (count_any _ _ (by omega)).mono ?_
  rw [HH.out.cc]
  rintro e w9 ⟨rfl, rfl⟩
  go_wp2_with fail
  refine (count_any _ _ (by omega)).mono ?_
  rw [HH.out.cd]
  rintro e w9 ⟨rfl, rfl⟩
  go_wp2_with fail
  have he : ((pj : Int) + (pm : Int) == (pc : Int) + (pd : Int)) = true := by have := SUM.out; simp; omega
  go_wp2_with fail
  all_goals try (exfalso; have := SUM.out; omega)
  refine (join_any _ _ _ (by omega) (by omega)).mono ?_
  rw [HH.out.j2]
  rintro e w9 ⟨rfl, b9⟩
  replace bb := chain bb b9
  clear b9
  go_wp2_with fail
  refine (less_any _ _ _ (by omega) (by omega)).mono ?_
  rw [HH.out.z]
  rintro e w9 ⟨rfl, b9⟩
  replace bb := chain bb b9
  clear b9
  go_wp2_with fail
  refine (count_any _ _ (by omega)).mono ?_
  rw [HH.out.cz]
  rintro e w9 ⟨rfl, rfl⟩
  go_wp2_with fail
  refine (join_any _ _ _ (by omega) (by omega)).mono ?_
  rw [HH.out.jc]
  rintro e w9 ⟨rfl, b9⟩
  replace bb := chain bb b9
  clear b9
  go_wp2_with fail
  refine (less_any _ _ _ (by omega) (by omega)).mono ?_
  rw [HH.out.l2]
  rintro e w9 ⟨rfl, b9⟩
  replace bb := chain bb b9
  clear b9
  go_wp2_with fail
  refine (less_any _ _ _ (by omega) (by omega)).mono ?_
  rw [HH.out.l]
  rintro e w9 ⟨rfl, b9⟩
  replace bb := chain bb b9
  clear b9
  go_wp2_with fail
  refine (less_any _ _ _ (by omega) (by omega)).mono ?_
  rw [HH.out.l]
  rintro e w9 ⟨rfl, b9⟩
  replace bb := chain bb b9
  clear b9
  go_wp2_with fail
  refine (join_any _ _ _ (by omega) (by omega)).mono ?_
  rw [HH.out.jm]
  rintro e w9 ⟨rfl, b9⟩
  replace bb := chain bb b9
  clear b9
  go_wp2_with fail
  go_ret
  refine ⟨ret_true ?_, bb⟩
  first | (simp; done) | (simp; omega)
theorem bitsAlgebra_law (a0 a1 : ByteArray) (w : World) (z0 : a0.size ≤ 140737488351232) (z1 : a1.size ≤ 140737488351232) :
    Calls Try.prog 7 #[.string a0, .string a1] w fun e w' => e = .returned (.bool true) ∧ Below w.heap.size w w' := by
  have hx : ∀ (a : ByteArray) (n : Nat), n ≤ a.size → (a.extract 0 n).size = n := fun a n h => by rw [ByteArray.size_extract]; omega
  rcases Int.lt_or_le (a1.size : Int) (a0.size : Int) with hs | hs
  · rcases Int.lt_or_le 100 (a1.size : Int) with hn | hn
    · have e0 := hx a0 100 (by omega)
      have e1 := hx a1 100 (by omega)
      exact bitsAlgebra_e a0 a1 _ _ _ _ _ _ _ _ _ _ w z0 z1 (Lib.hid rfl) (by omega) (Lib.hid rfl) (by omega) hs hn (alg_of _ _ (by omega))
    · have e0 := hx a0 a1.size (by omega)
      exact bitsAlgebra_b a0 a1 _ a1 _ _ _ _ _ _ _ _ w z0 z1 (Lib.hid rfl) (by omega) hs hn (alg_of _ _ (by omega))
  · rcases Int.lt_or_le 100 (a0.size : Int) with hn | hn
    · have e0 := hx a0 100 (by omega)
      have e1 := hx a1 100 (by omega)
      exact bitsAlgebra_c a0 a1 _ _ _ _ _ _ _ _ _ _ w z0 z1 (Lib.hid rfl) (by omega) (Lib.hid rfl) (by omega) hs hn (alg_of _ _ (by omega))
    · have e1 := hx a1 a0.size (by omega)
      exact bitsAlgebra_a a0 a1 a0 _ _ _ _ _ _ _ _ _ w z0 z1 (Lib.hid rfl) (by omega) hs hn (alg_of _ _ (by omega))
end Go.Proofs.Ytlcgohmpbmmcpaa
