/-
  Package proto: letters as a field; Invoke's fields; how Quota is written.
-/
import Derived.Test.YtemhlhcaahaecaaProtoEnc
import Derived.Test.YtemhlhcaahaecaaLetP
namespace Go.Proofs.Ytemhlhcaahaecaa
open Go.RowKit
set_option linter.unusedVariables false
set_option linter.unusedSimpArgs false
theorem letters_is (m : Int) (x : ByteArray) (w : World) (hx : textL (textS m) = x) :
    Calls Try.prog 75 #[.int .i64 m] w fun e w' => e = .returned (.string x) ∧ Below w.heap.size w w' := by
  have H := Lib.hid hx
  clear hx
  go_enter Try.func75, Try.ntmps75
  go_wp2_with fail
  refine (rtext_any m _).mono ?_
  rintro e w1 ⟨rfl, b1⟩
  go_wp2_with fail
  refine (ptext_is _ _ _ H.out).mono ?_
  rintro e w2 ⟨rfl, b2⟩
  go_wp2_with fail
  go_ret
  exact ⟨rfl, chain b1 b2⟩
set_option maxHeartbeats 3200000 in
set_option maxRecDepth 20000 in
theorem fields_Invoke (hd c : ByteArray) (rt : Int) (w : World) (s0 : hd.size ≤ 29) (x1 : ByteArray) (hc : Utf8.encode rt = c) (h1 : Hid (textL c = x1)) (s1 : x1.size ≤ 8) :
    Calls Try.prog 88 #[.agg #[.string hd, .int .i32 rt]] w fun e w' => e = .returned (.string (hd ++ x1)) ∧ Below w.heap.size w w' := by
  have z1 : (9223372036854775807 < hd.size + x1.size) = False := by rw [eq_iff_iff, iff_false]; omega
  have hcv : ∀ w, (convert 21 9 (.int .i32 rt)).run Try.prog w = .ok (.string c) w := fun w => by
    rw [← hc]
    exact run_convert_int_string w _ _ .i32 rt (by rw [Try.underlying21]; rfl) Try.underlying9
  clear hc
  go_enter Try.func88, Try.ntmps88
  go_wp2_with fail
  obtain ⟨w1, hw1⟩ : ∃ w1, w.alloc (.cells #[.string hd, .int .i32 rt] 58) = w1 := ⟨_, rfl⟩
  have hlt : w.heap.size < w1.heap.size := by rw [← hw1]; simp
  have CC : Hid (∀ w', Below w1.heap.size w1 w' → w'.cell? ⟨w.heap.size, 0, none⟩ = some (.string hd) ∧ w'.cell? ⟨w.heap.size, 1, none⟩ = some (.int .i32 rt)) := Lib.hid fun w' h => by
    refine ⟨?_, ?_⟩
    all_goals
      rw [h.cell hlt, ← hw1]
      simp
  have bb : Below w.heap.size w w1 := by rw [← hw1]; exact (Below.refl _ _).alloc (Nat.le_refl _) _
  rw [hw1]
  clear hw1 hlt
  have B0 : Below w1.heap.size w1 w1 := Below.refl _ _
  have C0 := CC.out w1 B0
  go_region_held3 (fun w' => Below w1.heap.size w1 w' ∧ w'.cell? ⟨w.heap.size, 0, none⟩ = some (.string hd) ∧ w'.cell? ⟨w.heap.size, 1, none⟩ = some (.int .i32 rt)) (first | assumption | exact ⟨B0.drew, CC.out _ B0.drew⟩ | exact keepN CC.out ⟨B0.drew, CC.out _ B0.drew⟩ b9 | exact keepN CC.out (by assumption) b9) ((first | (go_at_call 22; refine (ptext_is _ _ _ h1.out).mono ?_; rintro e w9 ⟨rfl, b9⟩)))
  rename_i hH
  go_wp2_with fail
  go_ret
  exact ⟨rfl, chain bb hH.1⟩
theorem proper_Quota (v : Bool) (w : World) (hv : quotaR = v) :
    Calls Try.prog 30 #[.iface 68 (.agg #[])] w fun e w' => e = .returned (.tuple #[if v = true then .iface 68 (.agg #[]) else .nilIface, .bool v]) ∧ Below w.heap.size w w' := by
  subst hv
  exact proper_q w
set_option maxHeartbeats 1600000 in
set_option maxRecDepth 20000 in
theorem encode_Quota  (id : Int) (x f : ByteArray) (v a : Bool) (w : World) (hv : quotaR  = v) (ha : askOk id = a) (hx : Hid (Str (putL id 4) = x)) (sx : x.size ≤ 8)
    (HF : Hid (v = true → ∀ w, Calls Try.prog 102 #[.agg #[]] w fun e w' => e = .returned (.string f) ∧ Below w.heap.size w w')) (sf' : f.size ≤ 1000) :
    Calls Try.prog 15 #[.int .i64 id, .iface 68 (.agg #[])] w fun e w' => e = .returned (if (v && a) = true then .tuple #[.string ((⟨#[1]⟩ : ByteArray) ++ (⟨#[12]⟩ : ByteArray) ++ x ++ f), .int .i64 0] else .tuple #[.string ⟨#[]⟩, .int .i64 1]) ∧ Below w.heap.size w w' := by
  have hm1 := m_op
  have hm2 := m_fields
  have H := Lib.hid hv
  have HA := Lib.hid ha
  have e1 : Hid (Str (putL 12 1) = ⟨#[12]⟩) := Lib.hid (by decide +kernel)
  have q1 : (⟨#[1]⟩ : ByteArray).size = 1 := by decide
  have q2 : (⟨#[12]⟩ : ByteArray).size = 1 := by decide
  have hi : a = true → 0 ≤ id ∧ id ≤ 4294967295 := fun h => askOk_iff.1 (ha.trans h)
  clear hv ha
  generalize hy : (⟨#[12]⟩ : ByteArray) = y at *
  clear hy
  cases v
  · go_enter Try.func15, Try.ntmps15
    go_wp2_with fail
    refine (proper_Quota  false _ H.out).mono ?_
    rintro e w1 ⟨rfl, b1⟩
    go_wp2_with fail
    all_goals go_ret2
    all_goals exact ⟨rfl, b1⟩
  · have G := Lib.hid (HF.out rfl)
    clear HF
    cases a
    · go_enter Try.func15, Try.ntmps15
      go_wp2_with fail
      refine (proper_Quota  true _ H.out).mono ?_
      rintro e w1 ⟨rfl, b1⟩
      go_wp2_with fail
      refine (askRight_is id false _ HA.out).mono ?_
      rintro e w2 ⟨rfl, rfl⟩
      go_wp2_with fail
      go_ret2
      exact ⟨rfl, b1⟩
    · have hi' := hi rfl
      clear hi
      go_enter Try.func15, Try.ntmps15
      go_wp2_with fail
      refine (proper_Quota  true _ H.out).mono ?_
      rintro e w1 ⟨rfl, b1⟩
      go_wp2_with fail
      refine (askRight_is id true _ HA.out).mono ?_
      rintro e w2 ⟨rfl, rfl⟩
      go_wp2_with fail
      refine (quota_op _).mono ?_
      rintro e w3 ⟨rfl, b3⟩
      go_wp2_with fail
      refine (pnumber_is 12 1 _ _ (by decide) (by decide) e1.out).mono ?_
      rintro e w4 ⟨rfl, b4⟩
      go_wp2_with fail
      refine (pnumber_is id 4 _ _ (by omega) (by omega) hx.out).mono ?_
      rintro e w5 ⟨rfl, b5⟩
      go_wp2_with fail
      refine (G.out _).mono ?_
      rintro e w6 ⟨rfl, b6⟩
      go_wp2_with fail
      go_ret2
      exact ⟨rfl, chain (chain (chain (chain b1 b3) b4) b5) b6⟩
end Go.Proofs.Ytemhlhcaahaecaa
