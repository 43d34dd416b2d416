/-
  Package rec: within, number, the slots: right, put, write.
-/
import Derived.Test.YtlbnakoaflladaaNum
import Derived.Test.YtlbnakoaflladaaMask
import Derived.Test.YtlbnakoaflladaaFoldFacts
import Derived.Outline
namespace Go.Proofs.Ytlbnakoaflladaa
open Go.RowKit
set_option linter.unusedVariables false
set_option linter.unusedSimpArgs false

def inB (lo hi n : Int) : Bool := decide (lo ≤ n) && decide (n ≤ hi)
theorem inB_iff {lo hi n : Int} : inB lo hi n = true ↔ lo ≤ n ∧ n ≤ hi := by simp [inB]
set_option maxHeartbeats 400000 in
theorem within_is (n lo hi : Int) (v : Bool) (w : World) (hv : inB lo hi n = v) :
    Calls Try.prog 50 #[.int .i64 n, .int .i64 lo, .int .i64 hi] w fun e w' => e = .returned (.bool v) ∧ w = w' := by
  have H := Lib.hid hv
  clear hv
  by_cases h : lo ≤ n
  all_goals
    go_enter Try.func50, Try.ntmps50
    go_wp2
    go_ret
    refine ⟨?_, rfl⟩
    rw [← H.out]
    exact ret_bool (by rw [Bool.eq_iff_iff]; simp [inB]; omega)
set_option maxHeartbeats 400000 in
theorem isID_is (n : Int) (v : Bool) (w : World) (hv : inB 1 16777215 n = v) :
    Calls Try.prog 49 #[.int .i64 n] w fun e w' => e = .returned (.bool v) ∧ w = w' := by
  have H := Lib.hid hv
  clear hv
  go_enter Try.func49, Try.ntmps49
  go_wp2_with fail
  refine (within_is _ _ _ v _ H.out).mono ?_
  rintro e w1 ⟨rfl, rfl⟩
  go_wp2_with fail
  go_ret
  exact ⟨rfl, rfl⟩

set_option maxHeartbeats 400000 in
theorem number_any (n size : Int) (w : World) (h0 : 0 ≤ n) (h1 : n ≤ 9223372036854775807) :
    Calls Try.prog 58 #[.int .i64 n, .int .i64 size] w fun e w' => e = .returned (.string (Str (putL n size))) ∧ Below w.heap.size w w' := by
  go_enter Try.func58, Try.ntmps58
  go_wp2_with fail
  refine (put_any _ _ _ (by omega)).mono ?_
  rintro e w1 ⟨rfl, b1⟩
  go_wp2_with fail
  go_ret
  exact ⟨rfl, b1⟩

/-- A slot's value. -/
def slotV (id cap ep nonce : Int) : Value := .agg #[.int .i64 id, .int .i64 cap, .int .i64 ep, .int .u64 nonce]
def slotOk (id cap ep : Int) : Bool := inB 1 200 id && inB 0 16777215 cap && inB 1 16 ep && (ep != 16 || cap == 0)
set_option maxHeartbeats 800000 in
theorem slotRight_is (id cap ep nonce : Int) (v : Bool) (w : World) (hv : slotOk id cap ep = v) :
    Calls Try.prog 45 #[.agg #[.int .i64 id, .int .i64 cap, .int .i64 ep, .int .u64 nonce]] w fun e w' => e = .returned (.bool v) ∧ Below w.heap.size w w' := by
  have hf : v = (inB 1 200 id && inB 0 16777215 cap && inB 1 16 ep && (ep != 16 || cap == 0)) := hv.symm
  clear hv
  cases h1 : inB 1 200 id
  all_goals cases h2 : inB 0 16777215 cap
  all_goals cases h3 : inB 1 16 ep
  all_goals cases h4 : (ep != 16)
  all_goals cases h5 : (cap == 0)
  all_goals
    rw [h1, h2, h3, h4, h5] at hf
    simp only [Bool.and_true, Bool.and_false, Bool.true_and, Bool.false_and, Bool.or_true, Bool.or_false, Bool.false_or, Bool.true_or] at hf
    have H1 := Lib.hid h1
    have H2 := Lib.hid h2
    have H3 := Lib.hid h3
    have HF := Lib.hid hf
    clear h1 h2 h3 hf
    go_enter Try.func45, Try.ntmps45
    go_wp2_with ((go_at_call 50; refine (within_is _ _ _ _ _ (by first | exact H1.out | exact H2.out | exact H3.out)).mono ?_; rintro e w9 ⟨rfl, rfl⟩))
    go_ret
    exact ⟨by rw [HF.out]; rfl, (Below.refl _ _).alloc (Nat.le_refl _) _⟩
theorem method_slot (id cap ep nonce : Int) (w : World) : (method 217 75 (.agg #[.int .i64 id, .int .i64 cap, .int .i64 ep, .int .u64 nonce]) "bailiwick/rec.right").run Try.prog w = .ok (45, .agg #[.int .i64 id, .int .i64 cap, .int .i64 ep, .int .u64 nonce]) w := by kernel_rfl
set_option maxRecDepth 20000 in
set_option maxHeartbeats 400000 in
theorem put_slot_no (id cap ep nonce : Int) (w : World) (hv : slotOk id cap ep = false) :
    Calls Try.prog 29 #[.iface 75 (.agg #[.int .i64 id, .int .i64 cap, .int .i64 ep, .int .u64 nonce])] w fun e w' => e = .returned (.tuple #[.string ⟨#[]⟩, .int .i64 1]) ∧ Below w.heap.size w w' := by
  have H := Lib.hid hv
  have hm := method_slot id cap ep nonce
  clear hv
  go_enter Try.func29, Try.ntmps29
  go_wp2_with fail
  refine (slotRight_is _ _ _ _ false _ H.out).mono ?_
  rintro e w1 ⟨rfl, b1⟩
  go_wp2_with fail
  go_ret2
  exact ⟨rfl, b1⟩
def capZ : Value := .agg #[.int .i64 0, .int .i64 0, .int .i64 0, .int .i64 0, .int .i64 0, .int .i64 0, .int .i64 0, .int .i64 0, .int .i64 0, .bool false]
def ownerZ : Value := .agg #[.int .i64 0, .string ⟨#[]⟩, .int .i64 0, .int .i64 0]
theorem slot_cap (v : Value) (w : World) : (Instr.typeAssert (.iface 75 v) 84 62 true).run Try.prog w = .ok (.tuple #[capZ, .bool false]) w := by kernel_rfl
theorem slot_owner (v : Value) (w : World) : (Instr.typeAssert (.iface 75 v) 84 71 true).run Try.prog w = .ok (.tuple #[ownerZ, .bool false]) w := by kernel_rfl
theorem slot_slot (v : Value) (w : World) : (Instr.typeAssert (.iface 75 v) 84 75 true).run Try.prog w = .ok (.tuple #[v, .bool true]) w := by kernel_rfl
theorem keepN {S : World → Prop} {w1 a b : World} (C : ∀ w', Below w1.heap.size w1 w' → S w') (h : Below w1.heap.size w1 a ∧ S a) (k : Below a.heap.size a b) : Below w1.heap.size w1 b ∧ S b :=
  ⟨chain h.1 k, C _ (chain h.1 k)⟩
theorem number_is (n size : Int) (x : ByteArray) (w : World) (h0 : 0 ≤ n) (h1 : n ≤ 9223372036854775807) (hx : Str (putL n size) = x) :
    Calls Try.prog 58 #[.int .i64 n, .int .i64 size] w fun e w' => e = .returned (.string x) ∧ Below w.heap.size w w' := by
  subst hx
  exact number_any n size w h0 h1
set_option maxRecDepth 20000 in
set_option maxHeartbeats 400000 in
theorem write_slot (id cap ep nonce : Int) (x y z : ByteArray) (w : World) (h1 : 0 ≤ cap) (h2 : cap ≤ 9223372036854775807) (h3 : 0 ≤ ep) (h4 : ep ≤ 9223372036854775807) (h5 : 0 ≤ nonce)
    (hx : Hid (Str (putL cap 3) = x)) (hy : Hid (Str (putL ep 1) = y)) (hz : Hid (Str (putL nonce 8) = z)) (sx : x.size ≤ 8) (sy : y.size ≤ 8) (sz : z.size ≤ 8) :
    Calls Try.prog 48 #[.iface 75 (.agg #[.int .i64 id, .int .i64 cap, .int .i64 ep, .int .u64 nonce])] w fun e w' => e = .returned (.string (x ++ y ++ z)) ∧ Below w.heap.size w w' := by
  have q1 := slot_cap (.agg #[.int .i64 id, .int .i64 cap, .int .i64 ep, .int .u64 nonce])
  have q2 := slot_owner (.agg #[.int .i64 id, .int .i64 cap, .int .i64 ep, .int .u64 nonce])
  have q3 := slot_slot (.agg #[.int .i64 id, .int .i64 cap, .int .i64 ep, .int .u64 nonce])
  go_enter Try.func48, Try.ntmps48
  go_wp2_with fail
  refine (put_any _ _ _ h5).mono ?_
  rw [hz.out]
  rintro e w1 ⟨rfl, b1⟩
  have hsz : w.heap.size < (w.alloc (.cells #[.int .i64 id, .int .i64 cap, .int .i64 ep, .int .u64 nonce] 75)).heap.size := by simp
  have hlt : w.heap.size < w1.heap.size := Nat.lt_of_lt_of_le hsz b1.size
  have CC : Hid (∀ w', Below w1.heap.size w1 w' → w'.cell? ⟨w.heap.size, 1, none⟩ = some (.int .i64 cap) ∧ w'.cell? ⟨w.heap.size, 2, none⟩ = some (.int .i64 ep)) := Lib.hid fun w' h => by
    refine ⟨?_, ?_⟩
    all_goals
      rw [h.cell hlt, b1.cell hsz]
      simp
  have bb : Below w.heap.size w w1 := ((Below.refl _ _).alloc (Nat.le_refl _) _).trans (b1.mono (Nat.le_of_lt hsz))
  clear b1 hsz hlt q1 q2 q3
  have B0 : Below w1.heap.size w1 w1 := Below.refl _ _
  have s1 : (9223372036854775807 < x.size + y.size) = False := by rw [eq_iff_iff, iff_false]; omega
  have s2 : (9223372036854775807 < x.size + y.size + z.size) = False := by rw [eq_iff_iff, iff_false]; omega
  go_wp2_with fail
  have C0 := CC.out w1 B0
  go_region_held3 (fun w' => Below w1.heap.size w1 w' ∧ w'.cell? ⟨w.heap.size, 1, none⟩ = some (.int .i64 cap) ∧ w'.cell? ⟨w.heap.size, 2, none⟩ = some (.int .i64 ep)) (first | exact ⟨B0.drew, CC.out _ B0.drew⟩ | exact keepN CC.out ⟨B0.drew, CC.out _ B0.drew⟩ b9 | exact keepN CC.out (by assumption) b9) ((first | (go_at_call 58; refine (number_is _ _ _ _ (by omega) (by omega) (by first | exact hx.out | exact hy.out)).mono ?_; rintro e w9 ⟨rfl, b9⟩)))
  rename_i hH
  go_wp2_with fail
  go_ret
  exact ⟨rfl, chain bb hH.1⟩
theorem putL_size (n size : Int) (h : size ≤ 8) : (Str (putL n size)).size ≤ 8 := by
  rw [Str_size]; unfold putL; split
  · rw [M.be_length]; omega
  · simp
/-- A slot's bytes. -/
def slotB (cap ep nonce : Int) : ByteArray := Str (putL cap 3) ++ Str (putL ep 1) ++ Str (putL nonce 8)
theorem slotOk_in {id cap ep : Int} (h : slotOk id cap ep = true) : 0 ≤ cap ∧ cap ≤ 16777215 ∧ 1 ≤ ep ∧ ep ≤ 16 ∧ 1 ≤ id ∧ id ≤ 200 := by
  unfold slotOk at h
  simp only [Bool.and_eq_true, inB_iff] at h
  omega
set_option maxRecDepth 20000 in
set_option maxHeartbeats 400000 in
theorem put_slot_yes (id cap ep nonce : Int) (w : World) (hv : slotOk id cap ep = true) (h5 : 0 ≤ nonce) :
    Calls Try.prog 29 #[.iface 75 (.agg #[.int .i64 id, .int .i64 cap, .int .i64 ep, .int .u64 nonce])] w fun e w' => e = .returned (.tuple #[.string (slotB cap ep nonce), .int .i64 0]) ∧ Below w.heap.size w w' := by
  have H := Lib.hid hv
  have hi := slotOk_in hv
  have hm := method_slot id cap ep nonce
  have hw := fun w0 => write_slot id cap ep nonce _ _ _ w0 hi.1 (by omega) (by omega) (by omega) h5 (Lib.hid rfl) (Lib.hid rfl) (Lib.hid rfl) (putL_size _ _ (by omega)) (putL_size _ _ (by omega)) (putL_size _ _ (by omega))
  have HW : Hid (∀ w0, Calls Try.prog 48 #[.iface 75 (.agg #[.int .i64 id, .int .i64 cap, .int .i64 ep, .int .u64 nonce])] w0 fun e w' => e = .returned (.string (slotB cap ep nonce)) ∧ Below w0.heap.size w0 w') := Lib.hid hw
  clear hv hw hi
  go_enter Try.func29, Try.ntmps29
  go_wp2_with fail
  refine (slotRight_is _ _ _ _ true _ H.out).mono ?_
  rintro e w1 ⟨rfl, b1⟩
  go_wp2_with fail
  refine (HW.out _).mono ?_
  rintro e w2 ⟨rfl, b2⟩
  go_wp2_with fail
  go_ret2
  exact ⟨rfl, chain b1 b2⟩
/-- What put answers of a slot. -/
def slotP (id cap ep nonce : Int) : ByteArray := if slotOk id cap ep = true then slotB cap ep nonce else ⟨#[]⟩
def okE (b : Bool) (n : Int) : Int := if b = true then 0 else n
theorem put_slot (id cap ep nonce : Int) (w : World) (h5 : 0 ≤ nonce) :
    Calls Try.prog 29 #[.iface 75 (.agg #[.int .i64 id, .int .i64 cap, .int .i64 ep, .int .u64 nonce])] w fun e w' => e = .returned (.tuple #[.string (slotP id cap ep nonce), .int .i64 (okE (slotOk id cap ep) 1)]) ∧ Below w.heap.size w w' := by
  cases h : slotOk id cap ep
  · have := put_slot_no id cap ep nonce w h
    simpa [slotP, okE, h] using this
  · have := put_slot_yes id cap ep nonce w h h5
    simpa [slotP, okE, h] using this
set_option maxRecDepth 20000 in
set_option maxHeartbeats 400000 in
theorem putSlot_any (id cap ep nonce : Int) (w : World) (h5 : 0 ≤ nonce) :
    Calls Try.prog 22 #[.agg #[.int .i64 id, .int .i64 cap, .int .i64 ep, .int .u64 nonce]] w fun e w' => e = .returned (.tuple #[.string (slotP id cap ep nonce), .int .i64 (okE (slotOk id cap ep) 1)]) ∧ Below w.heap.size w w' := by
  go_enter Try.func22, Try.ntmps22
  go_wp2_with fail
  refine (put_slot _ _ _ _ _ h5).mono ?_
  rintro e w1 ⟨rfl, b1⟩
  go_wp2_with fail
  go_ret2
  exact ⟨rfl, ((Below.refl _ _).alloc (Nat.le_refl _) _).trans (b1.mono (by simp))⟩
set_option maxRecDepth 20000 in
set_option maxHeartbeats 400000 in
theorem slotRight_any (id cap ep nonce : Int) (w : World) :
    Calls Try.prog 26 #[.agg #[.int .i64 id, .int .i64 cap, .int .i64 ep, .int .u64 nonce]] w fun e w' => e = .returned (.bool (slotOk id cap ep)) ∧ Below w.heap.size w w' := by
  go_enter Try.func26, Try.ntmps26
  go_wp2_with fail
  refine (slotRight_is _ _ _ _ _ _ rfl).mono ?_
  rintro e w1 ⟨rfl, b1⟩
  go_wp2_with fail
  go_ret
  exact ⟨rfl, ((Below.refl _ _).alloc (Nat.le_refl _) _).trans (b1.mono (by simp))⟩
/-- wrote: is s what put makes of the slot? -/
def slotW (id cap ep nonce : Int) (s : ByteArray) : Bool := slotOk id cap ep && decide (slotB cap ep nonce = s)
set_option maxRecDepth 20000 in
set_option maxHeartbeats 800000 in
theorem wrote_slot (id cap ep nonce : Int) (s : ByteArray) (w : World) (h5 : 0 ≤ nonce) :
    Calls Try.prog 32 #[.iface 75 (.agg #[.int .i64 id, .int .i64 cap, .int .i64 ep, .int .u64 nonce]), .string s] w fun e w' => e = .returned (.bool (slotW id cap ep nonce s)) ∧ Below w.heap.size w w' := by
  cases hk : slotOk id cap ep
  · have F : Hid (slotW id cap ep nonce s = false) := Lib.hid (by unfold slotW; rw [hk]; rfl)
    have K := Lib.hid (put_slot_no id cap ep nonce w hk)
    clear hk
    go_enter Try.func32, Try.ntmps32
    go_wp2_with fail
    refine K.out.mono ?_
    rintro e w1 ⟨rfl, b1⟩
    go_wp2_with fail
    go_ret
    exact ⟨by rw [F.out]; rfl, b1⟩
  · have K := Lib.hid (put_slot_yes id cap ep nonce w hk h5)
    have F : Hid (slotW id cap ep nonce s = ((slotB cap ep nonce).toList == s.toList)) := Lib.hid (by
      unfold slotW; rw [hk, list_beq, Bool.true_and])
    clear hk
    generalize slotB cap ep nonce = x at *
    go_enter Try.func32, Try.ntmps32
    go_wp2_with fail
    refine K.out.mono ?_
    rintro e w1 ⟨rfl, b1⟩
    go_wp2_with fail
    go_ret
    exact ⟨by rw [F.out]; rfl, b1⟩
end Go.Proofs.Ytlbnakoaflladaa
