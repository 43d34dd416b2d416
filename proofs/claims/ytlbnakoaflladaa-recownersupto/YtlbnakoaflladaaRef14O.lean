/-
  Package bailiwickref14: principals.
-/
import Derived.Test.YtlbnakoaflladaaRef14T
import Derived.Test.YtlbnakoaflladaaRefFold
namespace Go.Proofs.Ytlbnakoaflladaa
open Go.RowKit
set_option linter.unusedVariables false
set_option linter.unusedSimpArgs false
theorem ownerOk_turn (id : Int) (name : ByteArray) (li ha : Int) : ownerOk id name li ha = (rightB name && ((foldB name).toList == name.toList) && inB 1 16777215 id && inB 0 1000 li && inB 0 li ha) := by
  unfold ownerOk
  cases inB 1 16777215 id <;> cases rightB name <;> simp
set_option maxRecDepth 20000 in
set_option maxHeartbeats 1600000 in
theorem refOwnerRight_is (id : Int) (name : ByteArray) (li : Int) (ha : Int) (v : Bool) (w : World) (hs : name.size ≤ 1048576) (hv : ownerOk id name li ha = v) :
    Calls Try.prog 21 #[.agg #[.int .i64 id, .string name, .int .i64 li, .int .i64 ha]] w fun e w' => e = .returned (.bool v) ∧ Below w.heap.size w w' := by
  have hf : v = (rightB name && ((foldB name).toList == name.toList) && inB 1 16777215 id && inB 0 1000 li && inB 0 li ha) := by rw [← hv, ownerOk_turn]
  clear hv
  rcases owner_first (rightB name) (((foldB name).toList == name.toList)) (inB 1 16777215 id) (inB 0 1000 li) (inB 0 li ha) with h0 | ⟨h0, h1⟩ | ⟨h0, h1, h2⟩ | ⟨h0, h1, h2, h3⟩ | ⟨h0, h1, h2, h3, h4⟩ | ⟨h0, h1, h2, h3, h4⟩
  · rw [h0] at hf
    simp only [Bool.and_true, Bool.and_false, Bool.true_and, Bool.false_and] at hf
    have HF := Lib.hid hf
    clear hf 
    go_enter Try.func21, Try.ntmps21
    go_wp2_with fail
    refine (refFold_any _ _ hs).mono ?_
    rintro e w1 ⟨rfl, b1⟩
    have hsz : w.heap.size < (w.alloc (.cells #[.int .i64 id, .string name, .int .i64 li, .int .i64 ha] 37)).heap.size := by simp
    have c0 : w1.cell? ⟨w.heap.size, 0, none⟩ = some (.int .i64 id) := by rw [b1.cell hsz]; simp
    have c1 : w1.cell? ⟨w.heap.size, 1, none⟩ = some (.string name) := by rw [b1.cell hsz]; simp
    have c2 : w1.cell? ⟨w.heap.size, 2, none⟩ = some (.int .i64 li) := by rw [b1.cell hsz]; simp
    have c3 : w1.cell? ⟨w.heap.size, 3, none⟩ = some (.int .i64 ha) := by rw [b1.cell hsz]; simp
    have bb : Below w.heap.size w w1 := ((Below.refl _ _).alloc (Nat.le_refl _) _).trans (b1.mono (Nat.le_of_lt hsz))
    clear b1 hsz
    go_wp2_with fail
    go_ret
    exact ⟨by rw [HF.out]; rfl, bb⟩
  · rw [h0, h1] at hf
    simp only [Bool.and_true, Bool.and_false, Bool.true_and, Bool.false_and] at hf
    have HF := Lib.hid hf
    clear hf 
    go_enter Try.func21, Try.ntmps21
    go_wp2_with fail
    refine (refFold_any _ _ hs).mono ?_
    rintro e w1 ⟨rfl, b1⟩
    have hsz : w.heap.size < (w.alloc (.cells #[.int .i64 id, .string name, .int .i64 li, .int .i64 ha] 37)).heap.size := by simp
    have c0 : w1.cell? ⟨w.heap.size, 0, none⟩ = some (.int .i64 id) := by rw [b1.cell hsz]; simp
    have c1 : w1.cell? ⟨w.heap.size, 1, none⟩ = some (.string name) := by rw [b1.cell hsz]; simp
    have c2 : w1.cell? ⟨w.heap.size, 2, none⟩ = some (.int .i64 li) := by rw [b1.cell hsz]; simp
    have c3 : w1.cell? ⟨w.heap.size, 3, none⟩ = some (.int .i64 ha) := by rw [b1.cell hsz]; simp
    have bb : Below w.heap.size w w1 := ((Below.refl _ _).alloc (Nat.le_refl _) _).trans (b1.mono (Nat.le_of_lt hsz))
    clear b1 hsz
    go_wp2_with fail
    go_ret
    exact ⟨by rw [HF.out]; rfl, bb⟩
  · rw [h0, h1, h2] at hf
    simp only [Bool.and_true, Bool.and_false, Bool.true_and, Bool.false_and] at hf
    have HF := Lib.hid hf
    have H2 := Lib.hid h2
    clear hf h2
    go_enter Try.func21, Try.ntmps21
    go_wp2_with fail
    refine (refFold_any _ _ hs).mono ?_
    rintro e w1 ⟨rfl, b1⟩
    have hsz : w.heap.size < (w.alloc (.cells #[.int .i64 id, .string name, .int .i64 li, .int .i64 ha] 37)).heap.size := by simp
    have c0 : w1.cell? ⟨w.heap.size, 0, none⟩ = some (.int .i64 id) := by rw [b1.cell hsz]; simp
    have c1 : w1.cell? ⟨w.heap.size, 1, none⟩ = some (.string name) := by rw [b1.cell hsz]; simp
    have c2 : w1.cell? ⟨w.heap.size, 2, none⟩ = some (.int .i64 li) := by rw [b1.cell hsz]; simp
    have c3 : w1.cell? ⟨w.heap.size, 3, none⟩ = some (.int .i64 ha) := by rw [b1.cell hsz]; simp
    have bb : Below w.heap.size w w1 := ((Below.refl _ _).alloc (Nat.le_refl _) _).trans (b1.mono (Nat.le_of_lt hsz))
    clear b1 hsz
    go_wp2_with ((go_at_call 35; refine (refIn_is _ _ _ _ _ (by first | exact H2.out)).mono ?_; rintro e w9 ⟨rfl, rfl⟩))
    go_ret
    exact ⟨by rw [HF.out]; rfl, bb⟩
  · rw [h0, h1, h2, h3] at hf
    simp only [Bool.and_true, Bool.and_false, Bool.true_and, Bool.false_and] at hf
    have HF := Lib.hid hf
    have H2 := Lib.hid h2
    have H3 := Lib.hid h3
    clear hf h2 h3
    go_enter Try.func21, Try.ntmps21
    go_wp2_with fail
    refine (refFold_any _ _ hs).mono ?_
    rintro e w1 ⟨rfl, b1⟩
    have hsz : w.heap.size < (w.alloc (.cells #[.int .i64 id, .string name, .int .i64 li, .int .i64 ha] 37)).heap.size := by simp
    have c0 : w1.cell? ⟨w.heap.size, 0, none⟩ = some (.int .i64 id) := by rw [b1.cell hsz]; simp
    have c1 : w1.cell? ⟨w.heap.size, 1, none⟩ = some (.string name) := by rw [b1.cell hsz]; simp
    have c2 : w1.cell? ⟨w.heap.size, 2, none⟩ = some (.int .i64 li) := by rw [b1.cell hsz]; simp
    have c3 : w1.cell? ⟨w.heap.size, 3, none⟩ = some (.int .i64 ha) := by rw [b1.cell hsz]; simp
    have bb : Below w.heap.size w w1 := ((Below.refl _ _).alloc (Nat.le_refl _) _).trans (b1.mono (Nat.le_of_lt hsz))
    clear b1 hsz
    go_wp2_with ((go_at_call 35; refine (refIn_is _ _ _ _ _ (by first | exact H2.out | exact H3.out)).mono ?_; rintro e w9 ⟨rfl, rfl⟩))
    go_ret
    exact ⟨by rw [HF.out]; rfl, bb⟩
  · rw [h0, h1, h2, h3, h4] at hf
    simp only [Bool.and_true, Bool.and_false, Bool.true_and, Bool.false_and] at hf
    have HF := Lib.hid hf
    have H2 := Lib.hid h2
    have H3 := Lib.hid h3
    have H4 := Lib.hid h4
    clear hf h2 h3 h4
    go_enter Try.func21, Try.ntmps21
    go_wp2_with fail
    refine (refFold_any _ _ hs).mono ?_
    rintro e w1 ⟨rfl, b1⟩
    have hsz : w.heap.size < (w.alloc (.cells #[.int .i64 id, .string name, .int .i64 li, .int .i64 ha] 37)).heap.size := by simp
    have c0 : w1.cell? ⟨w.heap.size, 0, none⟩ = some (.int .i64 id) := by rw [b1.cell hsz]; simp
    have c1 : w1.cell? ⟨w.heap.size, 1, none⟩ = some (.string name) := by rw [b1.cell hsz]; simp
    have c2 : w1.cell? ⟨w.heap.size, 2, none⟩ = some (.int .i64 li) := by rw [b1.cell hsz]; simp
    have c3 : w1.cell? ⟨w.heap.size, 3, none⟩ = some (.int .i64 ha) := by rw [b1.cell hsz]; simp
    have bb : Below w.heap.size w w1 := ((Below.refl _ _).alloc (Nat.le_refl _) _).trans (b1.mono (Nat.le_of_lt hsz))
    clear b1 hsz
    go_wp2_with ((go_at_call 35; refine (refIn_is _ _ _ _ _ (by first | exact H2.out | exact H3.out | exact H4.out)).mono ?_; rintro e w9 ⟨rfl, rfl⟩))
    go_ret
    exact ⟨by rw [HF.out]; rfl, bb⟩
  · rw [h0, h1, h2, h3, h4] at hf
    simp only [Bool.and_true, Bool.and_false, Bool.true_and, Bool.false_and] at hf
    have HF := Lib.hid hf
    have H2 := Lib.hid h2
    have H3 := Lib.hid h3
    have H4 := Lib.hid h4
    clear hf h2 h3 h4
    go_enter Try.func21, Try.ntmps21
    go_wp2_with fail
    refine (refFold_any _ _ hs).mono ?_
    rintro e w1 ⟨rfl, b1⟩
    have hsz : w.heap.size < (w.alloc (.cells #[.int .i64 id, .string name, .int .i64 li, .int .i64 ha] 37)).heap.size := by simp
    have c0 : w1.cell? ⟨w.heap.size, 0, none⟩ = some (.int .i64 id) := by rw [b1.cell hsz]; simp
    have c1 : w1.cell? ⟨w.heap.size, 1, none⟩ = some (.string name) := by rw [b1.cell hsz]; simp
    have c2 : w1.cell? ⟨w.heap.size, 2, none⟩ = some (.int .i64 li) := by rw [b1.cell hsz]; simp
    have c3 : w1.cell? ⟨w.heap.size, 3, none⟩ = some (.int .i64 ha) := by rw [b1.cell hsz]; simp
    have bb : Below w.heap.size w w1 := ((Below.refl _ _).alloc (Nat.le_refl _) _).trans (b1.mono (Nat.le_of_lt hsz))
    clear b1 hsz
    go_wp2_with ((go_at_call 35; refine (refIn_is _ _ _ _ _ (by first | exact H2.out | exact H3.out | exact H4.out)).mono ?_; rintro e w9 ⟨rfl, rfl⟩))
    go_ret
    exact ⟨by rw [HF.out]; rfl, bb⟩
set_option maxRecDepth 20000 in
set_option maxHeartbeats 800000 in
theorem refPutOwner_no (id : Int) (name : ByteArray) (li ha : Int) (w : World) (hs : name.size ≤ 1048576) (hv : ownerOk id name li ha = false) :
    Calls Try.prog 17 #[.agg #[.int .i64 id, .string name, .int .i64 li, .int .i64 ha]] w fun e w' => e = .returned (.tuple #[.string ⟨#[]⟩, .bool false]) ∧ Below w.heap.size w w' := by
  have H := Lib.hid hv
  clear hv
  go_enter Try.func17, Try.ntmps17
  go_wp2_with fail
  refine (refOwnerRight_is _ _ _ _ false _ hs H.out).mono ?_
  rintro e w1 ⟨rfl, b1⟩
  go_wp2_with fail
  go_ret2
  exact ⟨rfl, ((Below.refl _ _).alloc (Nat.le_refl _) _).trans (b1.mono (by simp))⟩
set_option maxRecDepth 20000 in
set_option maxHeartbeats 1600000 in
theorem refPutOwner_yes (id : Int) (name : ByteArray) (li ha : Int) (x y z : ByteArray) (w : World) (hs : name.size ≤ 1048576) (hv : ownerOk id name li ha = true) (hx : Hid (Str (putL li 2) = x)) (hy : Hid (Str (putL ha 2) = y)) (hz : Hid (textL name = z)) (sx : x.size ≤ 8) (sy : y.size ≤ 8) (sz : z.size ≤ 256) :
    Calls Try.prog 17 #[.agg #[.int .i64 id, .string name, .int .i64 li, .int .i64 ha]] w fun e w' => e = .returned (.tuple #[.string (x ++ y ++ z), .bool true]) ∧ Below w.heap.size w w' := by
  have H := Lib.hid hv
  obtain ⟨⟨c0, c1⟩, ⟨e0, e1⟩⟩ := ownerOk_in hv
  clear hv
  go_enter Try.func17, Try.ntmps17
  go_wp2_with fail
  refine (refOwnerRight_is _ _ _ _ true _ hs H.out).mono ?_
  rintro e w1 ⟨rfl, b1⟩
  have K := Lib.hid (kept1 b1)
  have B : Hid (Below w.heap.size w w1) := Lib.hid (((Below.refl _ _).alloc (Nat.le_refl _) _).trans (b1.mono (by simp)))
  clear b1
  obtain ⟨k0, k1, k2, k3⟩ := cells4 K.out
  go_wp2_with fail
  refine (refText_any _ _).mono ?_
  rw [hz.out]
  rintro e w2 ⟨rfl, b2⟩
  clear k0 k1 k2 k3
  replace K := Lib.hid (kept K.out b2)
  replace B := Lib.hid (chain B.out b2)
  clear b2
  have CC : Hid (∀ w', Below w2.heap.size w2 w' → w'.cell? ⟨w.heap.size, 2, none⟩ = some (.int .i64 li) ∧ w'.cell? ⟨w.heap.size, 3, none⟩ = some (.int .i64 ha)) := Lib.hid fun w' h => by
    obtain ⟨_, _, k2, k3⟩ := cells4 (kept K.out h)
    exact ⟨k2, k3⟩
  have B0 : Below w2.heap.size w2 w2 := Below.refl _ _
  have s1 : (9223372036854775807 < x.size + y.size) = False := by rw [eq_iff_iff, iff_false]; omega
  have s2 : (9223372036854775807 < x.size + y.size + z.size) = False := by rw [eq_iff_iff, iff_false]; omega
  go_wp2_with fail
  have C0 := CC.out w2 B0
  go_region_held3 (fun w' => Below w2.heap.size w2 w' ∧ w'.cell? ⟨w.heap.size, 2, none⟩ = some (.int .i64 li) ∧ w'.cell? ⟨w.heap.size, 3, none⟩ = some (.int .i64 ha)) (first | exact ⟨B0.drew, CC.out _ B0.drew⟩ | exact keepN CC.out ⟨B0.drew, CC.out _ B0.drew⟩ b9 | exact keepN CC.out (by assumption) b9) ((first | (go_at_call 30; refine (refput_is _ _ _ _ (by omega) (by omega) (by first | exact hx.out | exact hy.out)).mono ?_; rintro e w9 ⟨rfl, b9⟩)))
  rename_i hH
  go_wp2_with fail
  go_ret2
  exact ⟨rfl, chain B.out hH.1⟩
theorem refPutOwner_any (id : Int) (name : ByteArray) (li ha : Int) (w : World) (hs : name.size ≤ 1048576) :
    Calls Try.prog 17 #[.agg #[.int .i64 id, .string name, .int .i64 li, .int .i64 ha]] w fun e w' => e = .returned (.tuple #[.string (ownerP id name li ha), .bool (ownerOk id name li ha)]) ∧ Below w.heap.size w w' := by
  cases h : ownerOk id name li ha
  · have := refPutOwner_no id name li ha w hs h
    simpa only [ownerP, h, if_false, Bool.false_eq_true] using this
  · have := refPutOwner_yes id name li ha _ _ _ w hs h (Lib.hid rfl) (Lib.hid rfl) (Lib.hid rfl) (putL_size _ _ (by omega)) (putL_size _ _ (by omega)) (textL_size _)
    simpa only [ownerP, ownerB, h, if_true] using this
/-- What a principal's value is made of. -/
theorem to_pieces (s : ByteArray) (h : 4 ≤ s.size) : takeR s 2 = s.extract 2 s.size ∧ takeR (takeR s 2) 2 = s.extract 4 s.size ∧ Str (putL (towner0 s) 2) ++ (Str (putL (towner1 s) 2) ++ s.extract 4 s.size) = s := by
  have e1 := pt_back s (k := 2) (by decide) (by decide) (by omega)
  have e2 := pt_back (takeR s 2) (k := 2) (by decide) (by decide) (by omega)
  have f1 := takeR_first s (k := 2) (by decide) (by decide) (by omega)
  have f2 := takeR_off s (k := 2) 2 (by decide) (by decide) (by omega)
  have f3 : takeR (takeR s 2) 2 = s.extract 4 s.size := by rw [f1]; exact f2
  refine ⟨f1, f3, ?_⟩
  unfold towner0 towner1
  rw [← f3, e2.1, e1.1]
theorem rightB_empty : rightB ⟨#[]⟩ = false := by decide +kernel
theorem to_eq (id : Int) (s r : ByteArray) (h : 4 ≤ s.size) (hr : s.extract 4 s.size = r) : townerOk id s = (ttOk r && (ttR r).toList.isEmpty && ownerOk id (ttS r) (towner0 s) (towner1 s)) := by
  obtain ⟨f1, f2, f3⟩ := to_pieces s h
  have e2 : towner2 s = ttS r := by unfold towner2; rw [f2, hr]
  rw [hr] at f3
  cases ho : ownerOk id (ttS r) (towner0 s) (towner1 s)
  · unfold townerOk ownerW
    rw [e2, ho]; simp
  · have hn : rightB (ttS r) = true := (ownerOk_put ho).2.2.2
    have hk : ttOk r = true := by
      cases hk : ttOk r
      · rw [(tt_no r hk).1, rightB_empty] at hn; cases hn
      · rfl
    obtain ⟨b1, b2, b3, b4⟩ := tt_back r hk
    unfold townerOk ownerW
    rw [e2, ho, hk, Bool.true_and, Bool.true_and, Bool.and_true]
    have hB : ownerB (ttS r) (towner0 s) (towner1 s) = Str (putL (towner0 s) 2) ++ (Str (putL (towner1 s) 2) ++ textL (ttS r)) := by unfold ownerB; rw [ByteArray.append_assoc]
    rw [hB]
    cases he : (ttR r).toList.isEmpty
    · rw [decide_eq_false_iff_not]
      intro h0
      have h1 := congrArg ByteArray.size h0
      have h2 := congrArg ByteArray.size f3
      have h3 := congrArg ByteArray.size b1
      simp only [ByteArray.size_append] at h1 h2 h3
      have : (ttR r).size = 0 := by omega
      rw [empty_of_size this] at he
      simp at he
    · rw [decide_eq_true_eq]
      have : ttR r = ⟨#[]⟩ := by
        apply empty_of_size
        rw [toList_data, List.isEmpty_iff] at he
        have := size_list (ttR r)
        rw [he] at this; simpa using this.symm
      rw [this, append_empty] at b1
      rw [b1, f3]
theorem to_ne (id : Int) (s : ByteArray) (h : s.size < 4) : townerOk id s = false := by
  cases hk : townerOk id s
  · rfl
  · exfalso
    obtain ⟨h1, h2⟩ := townerOk_and hk
    have := (ownerB_size h1).1
    rw [h2] at this; omega
set_option maxRecDepth 20000 in
set_option maxHeartbeats 800000 in
theorem refTakeOwner_short (id : Int) (s : ByteArray) (w : World) (hk : (s.size : Int) < 4) :
    Calls Try.prog 19 #[.int .i64 id, .string s] w fun e w' => e = .returned (.tuple #[.agg #[.int .i64 0, .string ⟨#[]⟩, .int .i64 0, .int .i64 0], .bool false]) ∧ Below w.heap.size w w' := by
  go_enter Try.func19, Try.ntmps19
  have R4 : (w.alloc (.cells #[.int .i64 0, .string ⟨#[]⟩, .int .i64 0, .int .i64 0] 37)).heap[w.heap.size]? = some (.cells #[.int .i64 0, .string ⟨#[]⟩, .int .i64 0, .int .i64 0] 37) := heap_alloc_new _ _
  go_wp2_with fail
  exact bodyPost_ret (v := .tuple #[.agg #[.int .i64 0, .string ⟨#[]⟩, .int .i64 0, .int .i64 0], .bool false]) (results_row_tmp Try.results19 _ _ w.heap.size 37 _ (0, 0) _ _ rfl rfl R4 Try.underlying37 rfl size_owner) rfl ⟨rfl, (Below.refl _ _).alloc (Nat.le_refl _) _⟩
set_option maxRecDepth 20000 in
set_option maxHeartbeats 3200000 in
theorem refTakeOwner_long (id li ha : Int) (name s t r u q : ByteArray) (tk em v : Bool) (w : World) (hk : 4 ≤ (s.size : Int)) (zr : r.size ≤ 1048576) (zn : name.size ≤ 1048576) (h0 : Hid (s.extract 0 s.size = u)) (h2 : Hid (s.extract 2 s.size = t)) (h4 : Hid (s.extract 4 s.size = r)) (hc : Hid (takeN u 2 = li)) (he : Hid (takeN t 2 = ha)) (hn : Hid (ttS r = name)) (hq : Hid (ttR r = q)) (hkk : Hid (ttOk r = tk)) (hem : (q.toList.isEmpty) = em) (hv : Hid (ownerOk id name li ha = v)) :
    Calls Try.prog 19 #[.int .i64 id, .string s] w fun e' w' => e' = .returned (.tuple #[if (tk && em && v) = true then .agg #[.int .i64 id, .string name, .int .i64 li, .int .i64 ha] else .agg #[.int .i64 0, .string ⟨#[]⟩, .int .i64 0, .int .i64 0], .bool (tk && em && v)]) ∧ Below w.heap.size w w' := by
  have EM := Lib.hid hem
  clear hem
  go_enter Try.func19, Try.ntmps19
  go_wp2_with fail
  rw [h4.out]
  refine (refTakeText_any _ _ (by omega)).mono ?_
  rw [hn.out, hq.out, hkk.out]
  rintro e' w1 ⟨rfl, b1⟩
  have R := Lib.hid (kept1 b1)
  have B : Hid (Below w.heap.size w w1) := Lib.hid (((Below.refl _ _).alloc (Nat.le_refl _) _).trans (b1.mono (by simp)))
  clear b1
  go_wp2_with fail
  refine (reftake_is s u 0 2 li _ (by decide) (by omega) (by decide) h0.out hc.out).mono ?_
  rintro e' w2 ⟨rfl, b2⟩
  replace R := Lib.hid (kept R.out b2)
  replace B := Lib.hid (chain B.out b2)
  clear b2
  go_wp2_with fail
  refine (reftake_is s t 2 2 ha _ (by decide) (by omega) (by decide) h2.out he.out).mono ?_
  rintro e' w3 ⟨rfl, b3⟩
  replace R := Lib.hid (kept R.out b3)
  replace B := Lib.hid (chain B.out b3)
  clear b3
  go_wp2_with fail
  refine (refOwnerRight_is _ _ _ _ v _ zn hv.out).mono ?_
  rintro e' w4 ⟨rfl, b4⟩
  have X := Lib.hid (kept1 b4)
  replace R := Lib.hid (kept2 R.out b4)
  replace B := Lib.hid (chain1 B.out b4)
  clear b4
  obtain ⟨r0, r1, r2, r3⟩ := cells4 R.out
  have f0 := Go.Joins.unfrozen_of_block R.out 0
  have f1 := Go.Joins.unfrozen_of_block R.out 1
  have f2 := Go.Joins.unfrozen_of_block R.out 2
  have f3 := Go.Joins.unfrozen_of_block R.out 3
  obtain ⟨x0, x1, x2, x3⟩ := cells4 X.out
  have RZ := Lib.hid (setN_heap w.heap.size 37 (0, 0) [.int .i64 0, .string ⟨#[]⟩, .int .i64 0, .int .i64 0] w4 0 _ R.out rfl)
  have BZ := Lib.hid (setN_below w.heap.size (Nat.le_refl _) [.int .i64 0, .string ⟨#[]⟩, .int .i64 0, .int .i64 0] w4 0 B.out)
  have RV := Lib.hid (setN_heap w.heap.size 37 (0, 0) [.int .i64 id, .string name, .int .i64 li, .int .i64 ha] w4 0 _ R.out rfl)
  have BV := Lib.hid (setN_below w.heap.size (Nat.le_refl _) [.int .i64 id, .string name, .int .i64 li, .int .i64 ha] w4 0 B.out)
  have em0 := EM.out
  have no : tk = false ∨ (tk = true ∧ em = false) ∨ (tk = true ∧ em = true ∧ v = false) ∨ (tk = true ∧ em = true ∧ v = true) := by
    cases tk <;> cases em <;> cases v <;> simp
  rcases no with rfl | ⟨rfl, rfl⟩ | ⟨rfl, rfl, rfl⟩ | ⟨rfl, rfl, rfl⟩
  · go_wp2_with fail
    exact bodyPost_ret (v := .tuple #[.agg #[.int .i64 0, .string ⟨#[]⟩, .int .i64 0, .int .i64 0], .bool false]) (results_row_tmp Try.results19 _ _ w.heap.size 37 _ (0, 0) _ _ rfl rfl RZ.out Try.underlying37 rfl size_owner) rfl ⟨rfl, BZ.out⟩
  · go_wp2_with fail
    exact bodyPost_ret (v := .tuple #[.agg #[.int .i64 0, .string ⟨#[]⟩, .int .i64 0, .int .i64 0], .bool false]) (results_row_tmp Try.results19 _ _ w.heap.size 37 _ (0, 0) _ _ rfl rfl RZ.out Try.underlying37 rfl size_owner) rfl ⟨rfl, BZ.out⟩
  · go_wp2_with fail
    exact bodyPost_ret (v := .tuple #[.agg #[.int .i64 0, .string ⟨#[]⟩, .int .i64 0, .int .i64 0], .bool false]) (results_row_tmp Try.results19 _ _ w.heap.size 37 _ (0, 0) _ _ rfl rfl RZ.out Try.underlying37 rfl size_owner) rfl ⟨rfl, BZ.out⟩
  · go_wp2_with fail
    exact bodyPost_ret (v := .tuple #[.agg #[.int .i64 id, .string name, .int .i64 li, .int .i64 ha], .bool true]) (results_row_tmp Try.results19 _ _ w.heap.size 37 _ (0, 0) _ _ rfl rfl RV.out Try.underlying37 rfl size_owner) rfl ⟨rfl, BV.out⟩
theorem refTakeOwner_any (id : Int) (s : ByteArray) (w : World) (hs : s.size ≤ 1048576) :
    Calls Try.prog 19 #[.int .i64 id, .string s] w fun e w' => e = .returned (.tuple #[townerV id s, .bool (townerOk id s)]) ∧ Below w.heap.size w w' := by
  by_cases hk : s.size < 4
  · have := refTakeOwner_short id s w (by omega)
    unfold townerV
    rw [to_ne id s hk]
    exact this
  · obtain ⟨e1, e2, _⟩ := to_pieces s (by omega)
    have zr : (s.extract 4 s.size).size ≤ 1048576 := by rw [ByteArray.size_extract]; omega
    have zn : (ttS (s.extract 4 s.size)).size ≤ 1048576 := Nat.le_trans (ttS_small _) (by decide)
    have := refTakeOwner_long id (towner0 s) (towner1 s) (ttS (s.extract 4 s.size)) s _ _ _ _ _ _ _ w (by omega) zr zn (Lib.hid rfl) (Lib.hid rfl) (Lib.hid rfl) (Lib.hid (by rw [extract_all]; rfl)) (Lib.hid (by rw [← e1]; rfl)) (Lib.hid rfl) (Lib.hid rfl) (Lib.hid rfl) rfl (Lib.hid rfl)
    rw [← to_eq id s _ (by omega) rfl] at this
    have e3 : towner2 s = ttS (s.extract 4 s.size) := by unfold towner2; rw [e2]
    unfold townerV
    rw [e3]
    exact this
end Go.Proofs.Ytlbnakoaflladaa
