/-
  Package rec: owners (made by tools/gen14.py).
-/
import Derived.Test.YtlbnakoaflladaaRecFld
namespace Go.Proofs.Ytlbnakoaflladaa
open Go.RowKit
set_option linter.unusedVariables false
set_option linter.unusedSimpArgs false

theorem textL_size (s : ByteArray) : (textL s).size ≤ 256 := by
  unfold textL; split
  · rw [Str_size]; simp; omega
  · decide
theorem takeR_size (s : ByteArray) (n : Int) : (takeR s n).size ≤ s.size := by
  unfold takeR; split
  · rw [ByteArray.size_extract]; omega
  · exact Nat.zero_le _
theorem ttS_size (s : ByteArray) : (ttS s).size ≤ s.size := by
  unfold ttS ttB; split
  · simp only [ByteArray.size_extract]; omega
  · exact Nat.zero_le _
theorem ttS_small (s : ByteArray) : (ttS s).size ≤ 255 := by
  have := take1_lt s
  unfold ttS; split
  · rw [ByteArray.size_extract]; omega
  · exact Nat.zero_le _
def ownerOk (id : Int) (name : ByteArray) (li : Int) (ha : Int) : Bool := inB 1 16777215 id && rightB name && ((foldB name).toList == name.toList) && inB 0 1000 li && inB 0 li ha
theorem owner_first (c0 : Bool) (c1 : Bool) (c2 : Bool) (c3 : Bool) (c4 : Bool) : (c0 = false) ∨ (c0 = true ∧ c1 = false) ∨ (c0 = true ∧ c1 = true ∧ c2 = false) ∨ (c0 = true ∧ c1 = true ∧ c2 = true ∧ c3 = false) ∨ (c0 = true ∧ c1 = true ∧ c2 = true ∧ c3 = true ∧ c4 = false) ∨ (c0 = true ∧ c1 = true ∧ c2 = true ∧ c3 = true ∧ c4 = true) := by
  cases c0
  · exact .inl rfl
  cases c1
  · exact .inr (.inl ⟨rfl, rfl⟩)
  cases c2
  · exact .inr (.inr (.inl ⟨rfl, rfl, rfl⟩))
  cases c3
  · exact .inr (.inr (.inr (.inl ⟨rfl, rfl, rfl, rfl⟩)))
  cases c4
  · exact .inr (.inr (.inr (.inr (.inl ⟨rfl, rfl, rfl, rfl, rfl⟩))))
  exact .inr (.inr (.inr (.inr (.inr (⟨rfl, rfl, rfl, rfl, rfl⟩)))))
set_option maxRecDepth 20000 in
set_option maxHeartbeats 1600000 in
theorem ownerRight_is (id : Int) (name : ByteArray) (li : Int) (ha : Int) (v : Bool) (w : World) (hs : name.size ≤ 140737488351232) (hv : ownerOk id name li ha = v) :
    Calls Try.prog 40 #[.agg #[.int .i64 id, .string name, .int .i64 li, .int .i64 ha]] w fun e w' => e = .returned (.bool v) ∧ Below w.heap.size w w' := by
  have hf : v = (inB 1 16777215 id && rightB name && ((foldB name).toList == name.toList) && inB 0 1000 li && inB 0 li ha) := hv.symm
  clear hv
  rcases owner_first (inB 1 16777215 id) (rightB name) ((foldB name).toList == name.toList) (inB 0 1000 li) (inB 0 li ha) with h0 | ⟨h0, h1⟩ | ⟨h0, h1, h2⟩ | ⟨h0, h1, h2, h3⟩ | ⟨h0, h1, h2, h3, h4⟩ | ⟨h0, h1, h2, h3, h4⟩
  · rw [h0] at hf
    simp only [Bool.and_true, Bool.and_false, Bool.true_and, Bool.false_and] at hf
    have HF := Lib.hid hf
    have H0 := Lib.hid h0
    clear hf h0
    go_enter Try.func40, Try.ntmps40
    go_wp2_with fail
    refine (fold_any _ _ hs).mono ?_
    rintro e w1 ⟨rfl, b1⟩
    have hsz : w.heap.size < (w.alloc (.cells #[.int .i64 id, .string name, .int .i64 li, .int .i64 ha] 71)).heap.size := by simp
    have c0 : w1.cell? ⟨w.heap.size, 0, none⟩ = some (.int .i64 id) := by rw [b1.cell hsz]; simp
    have c1 : w1.cell? ⟨w.heap.size, 1, none⟩ = some (.string name) := by rw [b1.cell hsz]; simp
    have c2 : w1.cell? ⟨w.heap.size, 2, none⟩ = some (.int .i64 li) := by rw [b1.cell hsz]; simp
    have c3 : w1.cell? ⟨w.heap.size, 3, none⟩ = some (.int .i64 ha) := by rw [b1.cell hsz]; simp
    have bb : Below w.heap.size w w1 := ((Below.refl _ _).alloc (Nat.le_refl _) _).trans (b1.mono (Nat.le_of_lt hsz))
    clear b1 hsz
    go_wp2_with (first | (go_at_call 49; refine (isID_is _ _ _ (by first | exact H0.out)).mono ?_; rintro e w9 ⟨rfl, rfl⟩))
    go_ret
    exact ⟨by rw [HF.out]; rfl, bb⟩
  · rw [h0, h1] at hf
    simp only [Bool.and_true, Bool.and_false, Bool.true_and, Bool.false_and] at hf
    have HF := Lib.hid hf
    have H0 := Lib.hid h0
    clear hf h0
    go_enter Try.func40, Try.ntmps40
    go_wp2_with fail
    refine (fold_any _ _ hs).mono ?_
    rintro e w1 ⟨rfl, b1⟩
    have hsz : w.heap.size < (w.alloc (.cells #[.int .i64 id, .string name, .int .i64 li, .int .i64 ha] 71)).heap.size := by simp
    have c0 : w1.cell? ⟨w.heap.size, 0, none⟩ = some (.int .i64 id) := by rw [b1.cell hsz]; simp
    have c1 : w1.cell? ⟨w.heap.size, 1, none⟩ = some (.string name) := by rw [b1.cell hsz]; simp
    have c2 : w1.cell? ⟨w.heap.size, 2, none⟩ = some (.int .i64 li) := by rw [b1.cell hsz]; simp
    have c3 : w1.cell? ⟨w.heap.size, 3, none⟩ = some (.int .i64 ha) := by rw [b1.cell hsz]; simp
    have bb : Below w.heap.size w w1 := ((Below.refl _ _).alloc (Nat.le_refl _) _).trans (b1.mono (Nat.le_of_lt hsz))
    clear b1 hsz
    go_wp2_with (first | (go_at_call 49; refine (isID_is _ _ _ (by first | exact H0.out)).mono ?_; rintro e w9 ⟨rfl, rfl⟩))
    go_ret
    exact ⟨by rw [HF.out]; rfl, bb⟩
  · rw [h0, h1, h2] at hf
    simp only [Bool.and_true, Bool.and_false, Bool.true_and, Bool.false_and] at hf
    have HF := Lib.hid hf
    have H0 := Lib.hid h0
    clear hf h0
    go_enter Try.func40, Try.ntmps40
    go_wp2_with fail
    refine (fold_any _ _ hs).mono ?_
    rintro e w1 ⟨rfl, b1⟩
    have hsz : w.heap.size < (w.alloc (.cells #[.int .i64 id, .string name, .int .i64 li, .int .i64 ha] 71)).heap.size := by simp
    have c0 : w1.cell? ⟨w.heap.size, 0, none⟩ = some (.int .i64 id) := by rw [b1.cell hsz]; simp
    have c1 : w1.cell? ⟨w.heap.size, 1, none⟩ = some (.string name) := by rw [b1.cell hsz]; simp
    have c2 : w1.cell? ⟨w.heap.size, 2, none⟩ = some (.int .i64 li) := by rw [b1.cell hsz]; simp
    have c3 : w1.cell? ⟨w.heap.size, 3, none⟩ = some (.int .i64 ha) := by rw [b1.cell hsz]; simp
    have bb : Below w.heap.size w w1 := ((Below.refl _ _).alloc (Nat.le_refl _) _).trans (b1.mono (Nat.le_of_lt hsz))
    clear b1 hsz
    go_wp2_with (first | (go_at_call 49; refine (isID_is _ _ _ (by first | exact H0.out)).mono ?_; rintro e w9 ⟨rfl, rfl⟩))
    go_ret
    exact ⟨by rw [HF.out]; rfl, bb⟩
  · rw [h0, h1, h2, h3] at hf
    simp only [Bool.and_true, Bool.and_false, Bool.true_and, Bool.false_and] at hf
    have HF := Lib.hid hf
    have H0 := Lib.hid h0
    have H3 := Lib.hid h3
    clear hf h0 h3
    go_enter Try.func40, Try.ntmps40
    go_wp2_with fail
    refine (fold_any _ _ hs).mono ?_
    rintro e w1 ⟨rfl, b1⟩
    have hsz : w.heap.size < (w.alloc (.cells #[.int .i64 id, .string name, .int .i64 li, .int .i64 ha] 71)).heap.size := by simp
    have c0 : w1.cell? ⟨w.heap.size, 0, none⟩ = some (.int .i64 id) := by rw [b1.cell hsz]; simp
    have c1 : w1.cell? ⟨w.heap.size, 1, none⟩ = some (.string name) := by rw [b1.cell hsz]; simp
    have c2 : w1.cell? ⟨w.heap.size, 2, none⟩ = some (.int .i64 li) := by rw [b1.cell hsz]; simp
    have c3 : w1.cell? ⟨w.heap.size, 3, none⟩ = some (.int .i64 ha) := by rw [b1.cell hsz]; simp
    have bb : Below w.heap.size w w1 := ((Below.refl _ _).alloc (Nat.le_refl _) _).trans (b1.mono (Nat.le_of_lt hsz))
    clear b1 hsz
    go_wp2_with (first | (go_at_call 49; refine (isID_is _ _ _ (by first | exact H0.out)).mono ?_; rintro e w9 ⟨rfl, rfl⟩) | (go_at_call 50; refine (within_is _ _ _ _ _ (by first | exact H3.out)).mono ?_; rintro e w9 ⟨rfl, rfl⟩))
    go_ret
    exact ⟨by rw [HF.out]; rfl, bb⟩
  · rw [h0, h1, h2, h3, h4] at hf
    simp only [Bool.and_true, Bool.and_false, Bool.true_and, Bool.false_and] at hf
    have HF := Lib.hid hf
    have H0 := Lib.hid h0
    have H3 := Lib.hid h3
    have H4 := Lib.hid h4
    clear hf h0 h3 h4
    go_enter Try.func40, Try.ntmps40
    go_wp2_with fail
    refine (fold_any _ _ hs).mono ?_
    rintro e w1 ⟨rfl, b1⟩
    have hsz : w.heap.size < (w.alloc (.cells #[.int .i64 id, .string name, .int .i64 li, .int .i64 ha] 71)).heap.size := by simp
    have c0 : w1.cell? ⟨w.heap.size, 0, none⟩ = some (.int .i64 id) := by rw [b1.cell hsz]; simp
    have c1 : w1.cell? ⟨w.heap.size, 1, none⟩ = some (.string name) := by rw [b1.cell hsz]; simp
    have c2 : w1.cell? ⟨w.heap.size, 2, none⟩ = some (.int .i64 li) := by rw [b1.cell hsz]; simp
    have c3 : w1.cell? ⟨w.heap.size, 3, none⟩ = some (.int .i64 ha) := by rw [b1.cell hsz]; simp
    have bb : Below w.heap.size w w1 := ((Below.refl _ _).alloc (Nat.le_refl _) _).trans (b1.mono (Nat.le_of_lt hsz))
    clear b1 hsz
    go_wp2_with (first | (go_at_call 49; refine (isID_is _ _ _ (by first | exact H0.out)).mono ?_; rintro e w9 ⟨rfl, rfl⟩) | (go_at_call 50; refine (within_is _ _ _ _ _ (by first | exact H3.out | exact H4.out)).mono ?_; rintro e w9 ⟨rfl, rfl⟩))
    go_ret
    exact ⟨by rw [HF.out]; rfl, bb⟩
  · rw [h0, h1, h2, h3, h4] at hf
    simp only [Bool.and_true, Bool.and_false, Bool.true_and, Bool.false_and] at hf
    have HF := Lib.hid hf
    have H0 := Lib.hid h0
    have H3 := Lib.hid h3
    have H4 := Lib.hid h4
    clear hf h0 h3 h4
    go_enter Try.func40, Try.ntmps40
    go_wp2_with fail
    refine (fold_any _ _ hs).mono ?_
    rintro e w1 ⟨rfl, b1⟩
    have hsz : w.heap.size < (w.alloc (.cells #[.int .i64 id, .string name, .int .i64 li, .int .i64 ha] 71)).heap.size := by simp
    have c0 : w1.cell? ⟨w.heap.size, 0, none⟩ = some (.int .i64 id) := by rw [b1.cell hsz]; simp
    have c1 : w1.cell? ⟨w.heap.size, 1, none⟩ = some (.string name) := by rw [b1.cell hsz]; simp
    have c2 : w1.cell? ⟨w.heap.size, 2, none⟩ = some (.int .i64 li) := by rw [b1.cell hsz]; simp
    have c3 : w1.cell? ⟨w.heap.size, 3, none⟩ = some (.int .i64 ha) := by rw [b1.cell hsz]; simp
    have bb : Below w.heap.size w w1 := ((Below.refl _ _).alloc (Nat.le_refl _) _).trans (b1.mono (Nat.le_of_lt hsz))
    clear b1 hsz
    go_wp2_with (first | (go_at_call 49; refine (isID_is _ _ _ (by first | exact H0.out)).mono ?_; rintro e w9 ⟨rfl, rfl⟩) | (go_at_call 50; refine (within_is _ _ _ _ _ (by first | exact H3.out | exact H4.out)).mono ?_; rintro e w9 ⟨rfl, rfl⟩))
    go_ret
    exact ⟨by rw [HF.out]; rfl, bb⟩
theorem method_owner (id : Int) (name : ByteArray) (li : Int) (ha : Int) (w : World) : (method 217 71 (.agg #[.int .i64 id, .string name, .int .i64 li, .int .i64 ha]) "bailiwick/rec.right").run Try.prog w = .ok (40, .agg #[.int .i64 id, .string name, .int .i64 li, .int .i64 ha]) w := by kernel_rfl
theorem owner_ask_cap (v : Value) (w : World) : (Instr.typeAssert (.iface 71 v) 84 62 true).run Try.prog w = .ok (.tuple #[capZ, .bool false]) w := by kernel_rfl
theorem owner_ask_owner (v : Value) (w : World) : (Instr.typeAssert (.iface 71 v) 84 71 true).run Try.prog w = .ok (.tuple #[v, .bool true]) w := by kernel_rfl
def ownerBN (N : Int → Int → ByteArray) (x : ByteArray) (name : ByteArray) (li : Int) (ha : Int) : ByteArray := N li 2 ++ N ha 2 ++ x
set_option maxRecDepth 20000 in
set_option maxHeartbeats 3200000 in
theorem write_owner (N : Int → Int → ByteArray) (x : ByteArray) (id : Int) (name : ByteArray) (li : Int) (ha : Int) (w : World) (g0 : 0 ≤ li) (l0 : li ≤ 9223372036854775807) (g1 : 0 ≤ ha) (l1 : ha ≤ 9223372036854775807)
    (HN : Hid (∀ (n size : Int) (w : World), 0 ≤ n → n ≤ 9223372036854775807 → Calls Try.prog 58 #[.int .i64 n, .int .i64 size] w fun e w' => e = .returned (.string (N n size)) ∧ Below w.heap.size w w')) (NS : Hid (∀ n size : Int, size ≤ 8 → (N n size).size ≤ 8))
    (hx : Hid (textL name = x)) (sx : x.size ≤ 256) :
    Calls Try.prog 48 #[.iface 71 (.agg #[.int .i64 id, .string name, .int .i64 li, .int .i64 ha])] w fun e w' => e = .returned (.string (N li 2 ++ N ha 2 ++ x)) ∧ Below w.heap.size w w' := by
  have q1 := owner_ask_cap (.agg #[.int .i64 id, .string name, .int .i64 li, .int .i64 ha])
  have q2 := owner_ask_owner (.agg #[.int .i64 id, .string name, .int .i64 li, .int .i64 ha])
  have z0 := NS.out li 2 (by omega)
  have z1 := NS.out ha 2 (by omega)
  have s1 : (9223372036854775807 < (N li 2).size + (N ha 2).size) = False := by rw [eq_iff_iff, iff_false]; omega
  have s2 : (9223372036854775807 < (N li 2).size + (N ha 2).size + x.size) = False := by rw [eq_iff_iff, iff_false]; omega
  clear z0 z1
  go_enter Try.func48, Try.ntmps48
  go_wp2_with fail
  refine (text_any _ _).mono ?_
  rw [hx.out]
  rintro e w1 ⟨rfl, b1⟩
  have hsz : w.heap.size < (w.alloc (.cells #[.int .i64 id, .string name, .int .i64 li, .int .i64 ha] 71)).heap.size := by simp
  have hlt : w.heap.size < w1.heap.size := Nat.lt_of_lt_of_le hsz b1.size
  have CC : Hid (∀ w', Below w1.heap.size w1 w' → w'.cell? ⟨w.heap.size, 2, none⟩ = some (.int .i64 li) ∧ w'.cell? ⟨w.heap.size, 3, none⟩ = some (.int .i64 ha)) := Lib.hid fun w' h => by
    refine ⟨?_, ?_⟩
    all_goals
      rw [h.cell hlt, b1.cell hsz]
      simp
  have bb : Below w.heap.size w w1 := ((Below.refl _ _).alloc (Nat.le_refl _) _).trans (b1.mono (Nat.le_of_lt hsz))
  clear b1 hsz hlt q1 q2
  have B0 : Below w1.heap.size w1 w1 := Below.refl _ _
  go_wp2_with fail
  have C0 := CC.out w1 B0
  go_region_held3 (fun w' => Below w1.heap.size w1 w' ∧ w'.cell? ⟨w.heap.size, 2, none⟩ = some (.int .i64 li) ∧ w'.cell? ⟨w.heap.size, 3, none⟩ = some (.int .i64 ha)) (first | assumption | exact ⟨B0.drew, CC.out _ B0.drew⟩ | exact keepN CC.out ⟨B0.drew, CC.out _ B0.drew⟩ b9 | exact keepN CC.out (by assumption) b9) ((first | (go_at_call 58; refine (HN.out _ _ _ (by first | omega | exact (yesN_in _).1) (by first | omega | exact (yesN_in _).2)).mono ?_; rintro e w9 ⟨rfl, b9⟩)))
  rename_i hH
  go_wp2_with fail
  go_ret
  exact ⟨rfl, chain bb hH.1⟩
/-- The bytes. -/
def ownerB (name : ByteArray) (li : Int) (ha : Int) : ByteArray := Str (putL li 2) ++ Str (putL ha 2) ++ textL name
theorem ownerOk_in {id : Int} {name : ByteArray} {li : Int} {ha : Int} (h : ownerOk id name li ha = true) : (0 ≤ li ∧ li ≤ 9223372036854775807) ∧ (0 ≤ ha ∧ ha ≤ 9223372036854775807) := by
  unfold ownerOk at h
  simp only [Bool.and_eq_true, inB_iff] at h
  omega
theorem wr_owner (id : Int) (name : ByteArray) (li : Int) (ha : Int) (w : World) (h : ownerOk id name li ha = true) :
    Calls Try.prog 48 #[.iface 71 (.agg #[.int .i64 id, .string name, .int .i64 li, .int .i64 ha])] w fun e w' => e = .returned (.string (ownerB name li ha)) ∧ Below w.heap.size w w' := by
  have hi := ownerOk_in h
  obtain ⟨k0, k1⟩ := hi
  exact write_owner (fun n size => Str (putL n size)) (textL name) id name li ha w k0.1 k0.2 k1.1 k1.2 (Lib.hid fun n size w h0 h1 => number_any n size w h0 h1) (Lib.hid fun n size h => putL_size n size h) (Lib.hid rfl) (textL_size name)
set_option maxRecDepth 20000 in
set_option maxHeartbeats 400000 in
theorem put_owner_no (id : Int) (name : ByteArray) (li : Int) (ha : Int) (w : World) (hs : name.size ≤ 140737488351232) (hv : ownerOk id name li ha = false) :
    Calls Try.prog 29 #[.iface 71 (.agg #[.int .i64 id, .string name, .int .i64 li, .int .i64 ha])] w fun e w' => e = .returned (.tuple #[.string ⟨#[]⟩, .int .i64 1]) ∧ Below w.heap.size w w' := by
  have H := Lib.hid hv
  have hm := method_owner id name li ha
  clear hv
  go_enter Try.func29, Try.ntmps29
  go_wp2_with fail
  refine (ownerRight_is _ _ _ _ false _ hs H.out).mono ?_
  rintro e w1 ⟨rfl, b1⟩
  go_wp2_with fail
  go_ret2
  exact ⟨rfl, b1⟩
set_option maxRecDepth 20000 in
set_option maxHeartbeats 400000 in
theorem put_owner_yes (id : Int) (name : ByteArray) (li : Int) (ha : Int) (w : World) (hs : name.size ≤ 140737488351232) (hv : ownerOk id name li ha = true) :
    Calls Try.prog 29 #[.iface 71 (.agg #[.int .i64 id, .string name, .int .i64 li, .int .i64 ha])] w fun e w' => e = .returned (.tuple #[.string (ownerB name li ha), .int .i64 0]) ∧ Below w.heap.size w w' := by
  have H := Lib.hid hv
  have hm := method_owner id name li ha
  have hw := fun w0 => wr_owner id name li ha w0 hv
  have HW : Hid (∀ w0, Calls Try.prog 48 #[.iface 71 (.agg #[.int .i64 id, .string name, .int .i64 li, .int .i64 ha])] w0 fun e w' => e = .returned (.string (ownerB name li ha)) ∧ Below w0.heap.size w0 w') := Lib.hid hw
  clear hv hw
  go_enter Try.func29, Try.ntmps29
  go_wp2_with fail
  refine (ownerRight_is _ _ _ _ true _ hs H.out).mono ?_
  rintro e w1 ⟨rfl, b1⟩
  go_wp2_with fail
  refine (HW.out _).mono ?_
  rintro e w2 ⟨rfl, b2⟩
  go_wp2_with fail
  go_ret2
  exact ⟨rfl, chain b1 b2⟩
/-- What put answers of a owner. -/
def ownerP (id : Int) (name : ByteArray) (li : Int) (ha : Int) : ByteArray := if ownerOk id name li ha = true then ownerB name li ha else ⟨#[]⟩
theorem put_owner (id : Int) (name : ByteArray) (li : Int) (ha : Int) (w : World) (hs : name.size ≤ 140737488351232) :
    Calls Try.prog 29 #[.iface 71 (.agg #[.int .i64 id, .string name, .int .i64 li, .int .i64 ha])] w fun e w' => e = .returned (.tuple #[.string (ownerP id name li ha), .int .i64 (okE (ownerOk id name li ha) 1)]) ∧ Below w.heap.size w w' := by
  cases h : ownerOk id name li ha
  · have := put_owner_no id name li ha w hs h
    simpa [ownerP, okE, h] using this
  · have := put_owner_yes id name li ha w hs h
    simpa [ownerP, okE, h] using this
set_option maxRecDepth 20000 in
set_option maxHeartbeats 400000 in
theorem putOwner_any (id : Int) (name : ByteArray) (li : Int) (ha : Int) (w : World) (hs : name.size ≤ 140737488351232) :
    Calls Try.prog 16 #[.agg #[.int .i64 id, .string name, .int .i64 li, .int .i64 ha]] w fun e w' => e = .returned (.tuple #[.string (ownerP id name li ha), .int .i64 (okE (ownerOk id name li ha) 1)]) ∧ Below w.heap.size w w' := by
  go_enter Try.func16, Try.ntmps16
  go_wp2_with fail
  refine (put_owner _ _ _ _ _ hs).mono ?_
  rintro e w1 ⟨rfl, b1⟩
  go_wp2_with fail
  go_ret2
  exact ⟨rfl, ((Below.refl _ _).alloc (Nat.le_refl _) _).trans (b1.mono (by simp))⟩
set_option maxRecDepth 20000 in
set_option maxHeartbeats 400000 in
theorem ownerRight_any (id : Int) (name : ByteArray) (li : Int) (ha : Int) (w : World) (hs : name.size ≤ 140737488351232) :
    Calls Try.prog 20 #[.agg #[.int .i64 id, .string name, .int .i64 li, .int .i64 ha]] w fun e w' => e = .returned (.bool (ownerOk id name li ha)) ∧ Below w.heap.size w w' := by
  go_enter Try.func20, Try.ntmps20
  go_wp2_with fail
  refine (ownerRight_is _ _ _ _ _ _ hs rfl).mono ?_
  rintro e w1 ⟨rfl, b1⟩
  go_wp2_with fail
  go_ret
  exact ⟨rfl, ((Below.refl _ _).alloc (Nat.le_refl _) _).trans (b1.mono (by simp))⟩
/-- wrote: is s what put makes of the owner? -/
def ownerW (id : Int) (name : ByteArray) (li : Int) (ha : Int) (s : ByteArray) : Bool := ownerOk id name li ha && decide (ownerB name li ha = s)
set_option maxRecDepth 20000 in
set_option maxHeartbeats 800000 in
theorem wrote_owner (id : Int) (name : ByteArray) (li : Int) (ha : Int) (s : ByteArray) (w : World) (hs : name.size ≤ 140737488351232) :
    Calls Try.prog 32 #[.iface 71 (.agg #[.int .i64 id, .string name, .int .i64 li, .int .i64 ha]), .string s] w fun e w' => e = .returned (.bool (ownerW id name li ha s)) ∧ Below w.heap.size w w' := by
  cases hk : ownerOk id name li ha
  · have F : Hid (ownerW id name li ha s = false) := Lib.hid (by unfold ownerW; rw [hk]; rfl)
    have K := Lib.hid (put_owner_no id name li ha w hs hk)
    clear hk
    go_enter Try.func32, Try.ntmps32
    go_wp2_with fail
    refine K.out.mono ?_
    rintro e w1 ⟨rfl, b1⟩
    go_wp2_with fail
    go_ret
    exact ⟨by rw [F.out]; rfl, b1⟩
  · have K := Lib.hid (put_owner_yes id name li ha w hs hk)
    have F : Hid (ownerW id name li ha s = ((ownerB name li ha).toList == s.toList)) := Lib.hid (by
      unfold ownerW; rw [hk, list_beq, Bool.true_and])
    clear hk
    generalize ownerB name li ha = x at *
    go_enter Try.func32, Try.ntmps32
    go_wp2_with fail
    refine K.out.mono ?_
    rintro e w1 ⟨rfl, b1⟩
    go_wp2_with fail
    go_ret
    exact ⟨by rw [F.out]; rfl, b1⟩
def towner0 (s : ByteArray) : Int := takeN s 2
def towner1 (s : ByteArray) : Int := takeN (takeR s 2) 2
def towner2 (s : ByteArray) : ByteArray := ttS (takeR (takeR s 2) 2)
def townerOk (id : Int) (s : ByteArray) : Bool := ownerW id (towner2 s) (towner0 s) (towner1 s) s
theorem size_owner : (Try.prog.info? 37).map (·.size) = some 4 := by kernel_rfl
set_option maxRecDepth 20000 in
set_option maxHeartbeats 1600000 in
theorem takeOwner_no (id : Int) (s : ByteArray) (w : World) (hs : s.size ≤ 140737488360000) (hk : townerOk id s = false) :
    Calls Try.prog 18 #[.int .i64 id, .string s] w fun e w' => e = .returned (.tuple #[.agg #[.int .i64 0, .string ⟨#[]⟩, .int .i64 0, .int .i64 0], .int .i64 2]) ∧ Below w.heap.size w w' := by
  have H := Lib.hid hk
  unfold townerOk at H
  clear hk
  have hr2 : (takeR (takeR s 2) 2).size ≤ 140737488360000 := Nat.le_trans (takeR_size _ _) (Nat.le_trans (takeR_size _ _) hs)
  have hr3 : (ttS (takeR (takeR s 2) 2)).size ≤ 140737488351232 := Nat.le_trans (ttS_small _) (by decide)
  have HR := Lib.hid hr2
  have HT := Lib.hid hr3
  clear hr2 hr3
  generalize h0 : towner0 s = n0 at *
  generalize h1 : towner1 s = n1 at *
  generalize h2 : towner2 s = n2 at *
  have E0 : Hid (takeN s 2 = n0) := Lib.hid h0
  have E1 : Hid (takeN (takeR s 2) 2 = n1) := Lib.hid h1
  have E2 : Hid (ttS (takeR (takeR s 2) 2) = n2) := Lib.hid h2
  clear h0 h1 h2
  rw [E2.out] at HT
  go_enter Try.func18, Try.ntmps18
  go_wp2_with fail
  refine (num_any _ s _ _ (heap_alloc2_new _ _ _) (by decide)).mono ?_
  rw [E0.out]
  rintro e w1 ⟨rfl, f1, b1⟩
  have F1 := Lib.hid f1
  have R1 : Hid (w1.heap[w.heap.size]? = some (.cells #[.int .i64 0, .string ⟨#[]⟩, .int .i64 0, .int .i64 0] 37)) := Lib.hid (by rw [b1.block _ (Nat.lt_succ_self _)]; exact heap_alloc2_old _ _ _)
  have B1 : Hid (Below w.heap.size w w1) := Lib.hid (((Below.refl _ _).alloc (Nat.le_refl _) _).alloc (by simp) _ |>.trans (b1.mono (by simp)))
  clear f1 b1
  go_wp2_with fail
  refine (num_any _ _ _ _ F1.out (by decide)).mono ?_
  rw [E1.out]
  rintro e w2 ⟨rfl, f2, b2⟩
  have F2 := Lib.hid f2
  have R2 : Hid (w2.heap[w.heap.size]? = some (.cells #[.int .i64 0, .string ⟨#[]⟩, .int .i64 0, .int .i64 0] 37)) := Lib.hid (by rw [b2.block _ (Nat.lt_succ_self _)]; exact R1.out)
  have B2 : Hid (Below w.heap.size w w2) := Lib.hid (B1.out.trans (b2.mono (by simp)))
  clear f2 b2 F1 R1 B1
  go_wp2_with fail
  refine (ftext_any _ _ _ F2.out (Nat.le_trans HR.out (by decide))).mono ?_
  rw [E2.out]
  rintro e w3 ⟨rfl, f3, b3⟩
  have F3 := Lib.hid f3
  have R3 : Hid (w3.heap[w.heap.size]? = some (.cells #[.int .i64 0, .string ⟨#[]⟩, .int .i64 0, .int .i64 0] 37)) := Lib.hid (by rw [b3.block _ (Nat.lt_succ_self _)]; exact R2.out)
  have B3 : Hid (Below w.heap.size w w3) := Lib.hid (B2.out.trans (b3.mono (by simp)))
  clear f3 b3 F2 R2 B2
  go_wp2_with fail
  refine (wrote_owner _ _ _ _ _ _ HT.out).mono ?_
  rw [H.out]
  rintro e wz ⟨rfl, bz⟩
  have hlt : w.heap.size < w3.heap.size := (Array.getElem?_eq_some_iff.1 R3.out).1
  have RZ : wz.heap[w.heap.size]? = some (.cells #[.int .i64 0, .string ⟨#[]⟩, .int .i64 0, .int .i64 0] 37) := by
    rw [bz.block _ (by simp; omega), Below.heap_alloc w3 _ _ hlt]; exact R3.out
  have BZ : Hid (Below w.heap.size w wz) := Lib.hid ((B3.out.alloc (Nat.le_of_lt hlt) _).trans (bz.mono (by simp; omega)))
  have c0 : wz.cell? ⟨w.heap.size, 0, none⟩ = some (.int .i64 0) := by rw [Go.Joins.cell_of_block RZ]; rfl
  have c1 : wz.cell? ⟨w.heap.size, 1, none⟩ = some (.string ⟨#[]⟩) := by rw [Go.Joins.cell_of_block RZ]; rfl
  have c2 : wz.cell? ⟨w.heap.size, 2, none⟩ = some (.int .i64 0) := by rw [Go.Joins.cell_of_block RZ]; rfl
  have c3 : wz.cell? ⟨w.heap.size, 3, none⟩ = some (.int .i64 0) := by rw [Go.Joins.cell_of_block RZ]; rfl
  have f0 := Go.Joins.unfrozen_of_block RZ 0
  have f1 := Go.Joins.unfrozen_of_block RZ 1
  have f2 := Go.Joins.unfrozen_of_block RZ 2
  have f3 := Go.Joins.unfrozen_of_block RZ 3
  have RX := Lib.hid (setN_heap w.heap.size 37 (0, 0) [.int .i64 0, .string ⟨#[]⟩, .int .i64 0, .int .i64 0] wz 0 _ RZ rfl)
  have BX := Lib.hid (setN_below w.heap.size (Nat.le_refl _) [.int .i64 0, .string ⟨#[]⟩, .int .i64 0, .int .i64 0] wz 0 BZ.out)
  clear bz R3 B3 F3 RZ BZ
  go_wp2_with fail
  exact bodyPost_ret (v := .tuple #[.agg #[.int .i64 0, .string ⟨#[]⟩, .int .i64 0, .int .i64 0], .int .i64 2]) (results_row_tmp Try.results18 _ _ w.heap.size 37 _ (0, 0) _ _ rfl rfl RX.out Try.underlying37 rfl size_owner) rfl ⟨rfl, BX.out⟩
set_option maxRecDepth 20000 in
set_option maxHeartbeats 1600000 in
theorem takeOwner_yes (id : Int) (s : ByteArray) (w : World) (hs : s.size ≤ 140737488360000) (hk : townerOk id s = true) :
    Calls Try.prog 18 #[.int .i64 id, .string s] w fun e w' => e = .returned (.tuple #[.agg #[.int .i64 id, .string (towner2 s), .int .i64 (towner0 s), .int .i64 (towner1 s)], .int .i64 0]) ∧ Below w.heap.size w w' := by
  have H := Lib.hid hk
  unfold townerOk at H
  clear hk
  have hr2 : (takeR (takeR s 2) 2).size ≤ 140737488360000 := Nat.le_trans (takeR_size _ _) (Nat.le_trans (takeR_size _ _) hs)
  have hr3 : (ttS (takeR (takeR s 2) 2)).size ≤ 140737488351232 := Nat.le_trans (ttS_small _) (by decide)
  have HR := Lib.hid hr2
  have HT := Lib.hid hr3
  clear hr2 hr3
  generalize h0 : towner0 s = n0 at *
  generalize h1 : towner1 s = n1 at *
  generalize h2 : towner2 s = n2 at *
  have E0 : Hid (takeN s 2 = n0) := Lib.hid h0
  have E1 : Hid (takeN (takeR s 2) 2 = n1) := Lib.hid h1
  have E2 : Hid (ttS (takeR (takeR s 2) 2) = n2) := Lib.hid h2
  clear h0 h1 h2
  rw [E2.out] at HT
  go_enter Try.func18, Try.ntmps18
  go_wp2_with fail
  refine (num_any _ s _ _ (heap_alloc2_new _ _ _) (by decide)).mono ?_
  rw [E0.out]
  rintro e w1 ⟨rfl, f1, b1⟩
  have F1 := Lib.hid f1
  have R1 : Hid (w1.heap[w.heap.size]? = some (.cells #[.int .i64 0, .string ⟨#[]⟩, .int .i64 0, .int .i64 0] 37)) := Lib.hid (by rw [b1.block _ (Nat.lt_succ_self _)]; exact heap_alloc2_old _ _ _)
  have B1 : Hid (Below w.heap.size w w1) := Lib.hid (((Below.refl _ _).alloc (Nat.le_refl _) _).alloc (by simp) _ |>.trans (b1.mono (by simp)))
  clear f1 b1
  go_wp2_with fail
  refine (num_any _ _ _ _ F1.out (by decide)).mono ?_
  rw [E1.out]
  rintro e w2 ⟨rfl, f2, b2⟩
  have F2 := Lib.hid f2
  have R2 : Hid (w2.heap[w.heap.size]? = some (.cells #[.int .i64 0, .string ⟨#[]⟩, .int .i64 0, .int .i64 0] 37)) := Lib.hid (by rw [b2.block _ (Nat.lt_succ_self _)]; exact R1.out)
  have B2 : Hid (Below w.heap.size w w2) := Lib.hid (B1.out.trans (b2.mono (by simp)))
  clear f2 b2 F1 R1 B1
  go_wp2_with fail
  refine (ftext_any _ _ _ F2.out (Nat.le_trans HR.out (by decide))).mono ?_
  rw [E2.out]
  rintro e w3 ⟨rfl, f3, b3⟩
  have F3 := Lib.hid f3
  have R3 : Hid (w3.heap[w.heap.size]? = some (.cells #[.int .i64 0, .string ⟨#[]⟩, .int .i64 0, .int .i64 0] 37)) := Lib.hid (by rw [b3.block _ (Nat.lt_succ_self _)]; exact R2.out)
  have B3 : Hid (Below w.heap.size w w3) := Lib.hid (B2.out.trans (b3.mono (by simp)))
  clear f3 b3 F2 R2 B2
  go_wp2_with fail
  refine (wrote_owner _ _ _ _ _ _ HT.out).mono ?_
  rw [H.out]
  rintro e wz ⟨rfl, bz⟩
  have hlt : w.heap.size < w3.heap.size := (Array.getElem?_eq_some_iff.1 R3.out).1
  have X4 : Hid (wz.heap[w3.heap.size]? = some (.cells #[.int .i64 id, .string n2, .int .i64 n0, .int .i64 n1] 37)) := Lib.hid (by rw [bz.block _ (by simp)]; exact heap_alloc_new _ _)
  have d0 : wz.cell? ⟨w3.heap.size, 0, none⟩ = some (.int .i64 id) := by rw [Go.Joins.cell_of_block X4.out]; rfl
  have d1 : wz.cell? ⟨w3.heap.size, 1, none⟩ = some (.string n2) := by rw [Go.Joins.cell_of_block X4.out]; rfl
  have d2 : wz.cell? ⟨w3.heap.size, 2, none⟩ = some (.int .i64 n0) := by rw [Go.Joins.cell_of_block X4.out]; rfl
  have d3 : wz.cell? ⟨w3.heap.size, 3, none⟩ = some (.int .i64 n1) := by rw [Go.Joins.cell_of_block X4.out]; rfl
  have RZ : wz.heap[w.heap.size]? = some (.cells #[.int .i64 0, .string ⟨#[]⟩, .int .i64 0, .int .i64 0] 37) := by
    rw [bz.block _ (by simp; omega), Below.heap_alloc w3 _ _ hlt]; exact R3.out
  have BZ : Hid (Below w.heap.size w wz) := Lib.hid ((B3.out.alloc (Nat.le_of_lt hlt) _).trans (bz.mono (by simp; omega)))
  have c0 : wz.cell? ⟨w.heap.size, 0, none⟩ = some (.int .i64 0) := by rw [Go.Joins.cell_of_block RZ]; rfl
  have c1 : wz.cell? ⟨w.heap.size, 1, none⟩ = some (.string ⟨#[]⟩) := by rw [Go.Joins.cell_of_block RZ]; rfl
  have c2 : wz.cell? ⟨w.heap.size, 2, none⟩ = some (.int .i64 0) := by rw [Go.Joins.cell_of_block RZ]; rfl
  have c3 : wz.cell? ⟨w.heap.size, 3, none⟩ = some (.int .i64 0) := by rw [Go.Joins.cell_of_block RZ]; rfl
  have f0 := Go.Joins.unfrozen_of_block RZ 0
  have f1 := Go.Joins.unfrozen_of_block RZ 1
  have f2 := Go.Joins.unfrozen_of_block RZ 2
  have f3 := Go.Joins.unfrozen_of_block RZ 3
  have RX := Lib.hid (setN_heap w.heap.size 37 (0, 0) [.int .i64 id, .string n2, .int .i64 n0, .int .i64 n1] wz 0 _ RZ rfl)
  have BX := Lib.hid (setN_below w.heap.size (Nat.le_refl _) [.int .i64 id, .string n2, .int .i64 n0, .int .i64 n1] wz 0 BZ.out)
  clear bz R3 B3 F3 RZ BZ X4
  go_wp2_with fail
  exact bodyPost_ret (v := .tuple #[.agg #[.int .i64 id, .string n2, .int .i64 n0, .int .i64 n1], .int .i64 0]) (results_row_tmp Try.results18 _ _ w.heap.size 37 _ (0, 0) _ _ rfl rfl RX.out Try.underlying37 rfl size_owner) rfl ⟨rfl, BX.out⟩
/-- What TakeOwner answers. -/
def townerV (id : Int) (s : ByteArray) : Value := if townerOk id s = true then .agg #[.int .i64 id, .string (towner2 s), .int .i64 (towner0 s), .int .i64 (towner1 s)] else .agg #[.int .i64 0, .string ⟨#[]⟩, .int .i64 0, .int .i64 0]
theorem takeOwner_any (id : Int) (s : ByteArray) (w : World) (hs : s.size ≤ 140737488360000) :
    Calls Try.prog 18 #[.int .i64 id, .string s] w fun e w' => e = .returned (.tuple #[townerV id s, .int .i64 (okE (townerOk id s) 2)]) ∧ Below w.heap.size w w' := by
  cases h : townerOk id s
  · have := takeOwner_no id s w hs h
    simpa [townerV, okE, h] using this
  · have := takeOwner_yes id s w hs h
    simpa [townerV, okE, h] using this
end Go.Proofs.Ytlbnakoaflladaa
