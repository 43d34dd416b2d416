/-
  Package proto: each request is written.
-/
import Derived.Test.YtemhlhcaahaecaaProtoFields
namespace Go.Proofs.Ytemhlhcaahaecaa
open Go.RowKit
set_option linter.unusedVariables false
set_option linter.unusedSimpArgs false
theorem op_Hello (nm : ByteArray) (w : World) : Calls Try.prog 98 #[.agg #[.string nm]] w fun e w' => e = .returned (.int .i64 1) ∧ Below w.heap.size w w' := by
  go_enter Try.func98, Try.ntmps98
  go_wp2_with fail
  go_ret
  exact ⟨rfl, (Below.refl _ _).alloc (Nat.le_refl _) _⟩
theorem mo_Hello (nm : ByteArray) (w : World) : (method 321 64 (.agg #[.string nm]) "Op").run Try.prog w = .ok (98, .agg #[.string nm]) w := by kernel_rfl
theorem mf_Hello (nm : ByteArray) (w : World) : (method 321 64 (.agg #[.string nm]) "bailiwick/proto.fields").run Try.prog w = .ok (99, .agg #[.string nm]) w := by kernel_rfl
set_option maxHeartbeats 1600000 in
set_option maxRecDepth 20000 in
theorem encode_Hello (nm : ByteArray) (id : Int) (x f : ByteArray) (v a : Bool) (w : World) (hs : nm.size ≤ 140737488351232) (hv : helloR nm = v) (ha : askOk id = a) (hx : Hid (Str (putL id 4) = x)) (sx : x.size ≤ 8)
    (HF : Hid (v = true → ∀ w, Calls Try.prog 99 #[.agg #[.string nm]] w fun e w' => e = .returned (.string f) ∧ Below w.heap.size w w')) (sf' : f.size ≤ 1000) :
    Calls Try.prog 15 #[.int .i64 id, .iface 64 (.agg #[.string nm])] w fun e w' => e = .returned (if (v && a) = true then .tuple #[.string ((⟨#[1]⟩ : ByteArray) ++ (⟨#[1]⟩ : ByteArray) ++ x ++ f), .int .i64 0] else .tuple #[.string ⟨#[]⟩, .int .i64 1]) ∧ Below w.heap.size w w' := by
  have hm1 := mo_Hello nm
  have hm2 := mf_Hello nm
  have H := Lib.hid hv
  have HA := Lib.hid ha
  have e1 : Hid (Str (putL 1 1) = ⟨#[1]⟩) := Lib.hid (by decide +kernel)
  have q1 : (⟨#[1]⟩ : ByteArray).size = 1 := by decide
  have q2 : (⟨#[1]⟩ : ByteArray).size = 1 := by decide
  have hi : a = true → 0 ≤ id ∧ id ≤ 4294967295 := fun h => askOk_iff.1 (ha.trans h)
  clear hv ha
  cases v
  · go_enter Try.func15, Try.ntmps15
    go_wp2_with fail
    refine (proper_Hello nm false _ hs H.out).mono ?_
    rintro e w1 ⟨rfl, b1⟩
    go_wp2_with fail
    all_goals go_ret2
    all_goals exact ⟨rfl, b1⟩
  · have G := Lib.hid (HF.out rfl)
    clear HF
    cases a
    · go_enter Try.func15, Try.ntmps15
      go_wp2_with fail
      refine (proper_Hello nm true _ hs H.out).mono ?_
      rintro e w1 ⟨rfl, b1⟩
      go_wp2_with fail
      refine (askRight_is id false _ HA.out).mono ?_
      rintro e w2 ⟨rfl, rfl⟩
      go_wp2_with fail
      go_ret2
      exact ⟨rfl, b1⟩
    · have hi' := hi rfl
      clear hi
      go_enter Try.func15, Try.ntmps15
      go_wp2_with fail
      refine (proper_Hello nm true _ hs H.out).mono ?_
      rintro e w1 ⟨rfl, b1⟩
      go_wp2_with fail
      refine (askRight_is id true _ HA.out).mono ?_
      rintro e w2 ⟨rfl, rfl⟩
      go_wp2_with fail
      refine (op_Hello nm _).mono ?_
      rintro e w3 ⟨rfl, b3⟩
      go_wp2_with fail
      refine (pnumber_is 1 1 _ _ (by decide) (by decide) e1.out).mono ?_
      rintro e w4 ⟨rfl, b4⟩
      go_wp2_with fail
      refine (pnumber_is id 4 _ _ (by omega) (by omega) hx.out).mono ?_
      rintro e w5 ⟨rfl, b5⟩
      go_wp2_with fail
      refine (G.out _).mono ?_
      rintro e w6 ⟨rfl, b6⟩
      go_wp2_with fail
      go_ret2
      exact ⟨rfl, chain (chain (chain (chain b1 b3) b4) b5) b6⟩
theorem op_Register (nm : ByteArray) (li : Int) (w : World) : Calls Try.prog 64 #[.agg #[.string nm, .int .i64 li]] w fun e w' => e = .returned (.int .i64 2) ∧ Below w.heap.size w w' := by
  go_enter Try.func64, Try.ntmps64
  go_wp2_with fail
  go_ret
  exact ⟨rfl, (Below.refl _ _).alloc (Nat.le_refl _) _⟩
theorem mo_Register (nm : ByteArray) (li : Int) (w : World) : (method 321 51 (.agg #[.string nm, .int .i64 li]) "Op").run Try.prog w = .ok (64, .agg #[.string nm, .int .i64 li]) w := by kernel_rfl
theorem mf_Register (nm : ByteArray) (li : Int) (w : World) : (method 321 51 (.agg #[.string nm, .int .i64 li]) "bailiwick/proto.fields").run Try.prog w = .ok (65, .agg #[.string nm, .int .i64 li]) w := by kernel_rfl
set_option maxHeartbeats 1600000 in
set_option maxRecDepth 20000 in
theorem encode_Register (nm : ByteArray) (li : Int) (id : Int) (x f : ByteArray) (v a : Bool) (w : World) (hs : nm.size ≤ 140737488351232) (hv : registerR nm li = v) (ha : askOk id = a) (hx : Hid (Str (putL id 4) = x)) (sx : x.size ≤ 8)
    (HF : Hid (v = true → ∀ w, Calls Try.prog 65 #[.agg #[.string nm, .int .i64 li]] w fun e w' => e = .returned (.string f) ∧ Below w.heap.size w w')) (sf' : f.size ≤ 1000) :
    Calls Try.prog 15 #[.int .i64 id, .iface 51 (.agg #[.string nm, .int .i64 li])] w fun e w' => e = .returned (if (v && a) = true then .tuple #[.string ((⟨#[1]⟩ : ByteArray) ++ (⟨#[2]⟩ : ByteArray) ++ x ++ f), .int .i64 0] else .tuple #[.string ⟨#[]⟩, .int .i64 1]) ∧ Below w.heap.size w w' := by
  have hm1 := mo_Register nm li
  have hm2 := mf_Register nm li
  have H := Lib.hid hv
  have HA := Lib.hid ha
  have e1 : Hid (Str (putL 2 1) = ⟨#[2]⟩) := Lib.hid (by decide +kernel)
  have q1 : (⟨#[1]⟩ : ByteArray).size = 1 := by decide
  have q2 : (⟨#[2]⟩ : ByteArray).size = 1 := by decide
  have hi : a = true → 0 ≤ id ∧ id ≤ 4294967295 := fun h => askOk_iff.1 (ha.trans h)
  clear hv ha
  generalize hy : (⟨#[2]⟩ : ByteArray) = y at *
  clear hy
  cases v
  · go_enter Try.func15, Try.ntmps15
    go_wp2_with fail
    refine (proper_Register nm li false _ hs H.out).mono ?_
    rintro e w1 ⟨rfl, b1⟩
    go_wp2_with fail
    all_goals go_ret2
    all_goals exact ⟨rfl, b1⟩
  · have G := Lib.hid (HF.out rfl)
    clear HF
    cases a
    · go_enter Try.func15, Try.ntmps15
      go_wp2_with fail
      refine (proper_Register nm li true _ hs H.out).mono ?_
      rintro e w1 ⟨rfl, b1⟩
      go_wp2_with fail
      refine (askRight_is id false _ HA.out).mono ?_
      rintro e w2 ⟨rfl, rfl⟩
      go_wp2_with fail
      go_ret2
      exact ⟨rfl, b1⟩
    · have hi' := hi rfl
      clear hi
      go_enter Try.func15, Try.ntmps15
      go_wp2_with fail
      refine (proper_Register nm li true _ hs H.out).mono ?_
      rintro e w1 ⟨rfl, b1⟩
      go_wp2_with fail
      refine (askRight_is id true _ HA.out).mono ?_
      rintro e w2 ⟨rfl, rfl⟩
      go_wp2_with fail
      refine (op_Register nm li _).mono ?_
      rintro e w3 ⟨rfl, b3⟩
      go_wp2_with fail
      refine (pnumber_is 2 1 _ _ (by decide) (by decide) e1.out).mono ?_
      rintro e w4 ⟨rfl, b4⟩
      go_wp2_with fail
      refine (pnumber_is id 4 _ _ (by omega) (by omega) hx.out).mono ?_
      rintro e w5 ⟨rfl, b5⟩
      go_wp2_with fail
      refine (G.out _).mono ?_
      rintro e w6 ⟨rfl, b6⟩
      go_wp2_with fail
      go_ret2
      exact ⟨rfl, chain (chain (chain (chain b1 b3) b4) b5) b6⟩
theorem op_Mint (ob : Int) (ri : Int) (ba : Int) (ex : Int) (w : World) : Calls Try.prog 72 #[.agg #[.int .i64 ob, .int .i64 ri, .int .i64 ba, .int .i64 ex]] w fun e w' => e = .returned (.int .i64 3) ∧ Below w.heap.size w w' := by
  go_enter Try.func72, Try.ntmps72
  go_wp2_with fail
  go_ret
  exact ⟨rfl, (Below.refl _ _).alloc (Nat.le_refl _) _⟩
theorem mo_Mint (ob : Int) (ri : Int) (ba : Int) (ex : Int) (w : World) : (method 321 53 (.agg #[.int .i64 ob, .int .i64 ri, .int .i64 ba, .int .i64 ex]) "Op").run Try.prog w = .ok (72, .agg #[.int .i64 ob, .int .i64 ri, .int .i64 ba, .int .i64 ex]) w := by kernel_rfl
theorem mf_Mint (ob : Int) (ri : Int) (ba : Int) (ex : Int) (w : World) : (method 321 53 (.agg #[.int .i64 ob, .int .i64 ri, .int .i64 ba, .int .i64 ex]) "bailiwick/proto.fields").run Try.prog w = .ok (73, .agg #[.int .i64 ob, .int .i64 ri, .int .i64 ba, .int .i64 ex]) w := by kernel_rfl
set_option maxHeartbeats 1600000 in
set_option maxRecDepth 20000 in
theorem encode_Mint (ob : Int) (ri : Int) (ba : Int) (ex : Int) (id : Int) (x f : ByteArray) (v a : Bool) (w : World) (hv : mintR ob ri ba ex = v) (ha : askOk id = a) (hx : Hid (Str (putL id 4) = x)) (sx : x.size ≤ 8)
    (HF : Hid (v = true → ∀ w, Calls Try.prog 73 #[.agg #[.int .i64 ob, .int .i64 ri, .int .i64 ba, .int .i64 ex]] w fun e w' => e = .returned (.string f) ∧ Below w.heap.size w w')) (sf' : f.size ≤ 1000) :
    Calls Try.prog 15 #[.int .i64 id, .iface 53 (.agg #[.int .i64 ob, .int .i64 ri, .int .i64 ba, .int .i64 ex])] w fun e w' => e = .returned (if (v && a) = true then .tuple #[.string ((⟨#[1]⟩ : ByteArray) ++ (⟨#[3]⟩ : ByteArray) ++ x ++ f), .int .i64 0] else .tuple #[.string ⟨#[]⟩, .int .i64 1]) ∧ Below w.heap.size w w' := by
  have hm1 := mo_Mint ob ri ba ex
  have hm2 := mf_Mint ob ri ba ex
  have H := Lib.hid hv
  have HA := Lib.hid ha
  have e1 : Hid (Str (putL 3 1) = ⟨#[3]⟩) := Lib.hid (by decide +kernel)
  have q1 : (⟨#[1]⟩ : ByteArray).size = 1 := by decide
  have q2 : (⟨#[3]⟩ : ByteArray).size = 1 := by decide
  have hi : a = true → 0 ≤ id ∧ id ≤ 4294967295 := fun h => askOk_iff.1 (ha.trans h)
  clear hv ha
  generalize hy : (⟨#[3]⟩ : ByteArray) = y at *
  clear hy
  cases v
  · go_enter Try.func15, Try.ntmps15
    go_wp2_with fail
    refine (proper_Mint ob ri ba ex false _ H.out).mono ?_
    rintro e w1 ⟨rfl, b1⟩
    go_wp2_with fail
    all_goals go_ret2
    all_goals exact ⟨rfl, b1⟩
  · have G := Lib.hid (HF.out rfl)
    clear HF
    cases a
    · go_enter Try.func15, Try.ntmps15
      go_wp2_with fail
      refine (proper_Mint ob ri ba ex true _ H.out).mono ?_
      rintro e w1 ⟨rfl, b1⟩
      go_wp2_with fail
      refine (askRight_is id false _ HA.out).mono ?_
      rintro e w2 ⟨rfl, rfl⟩
      go_wp2_with fail
      go_ret2
      exact ⟨rfl, b1⟩
    · have hi' := hi rfl
      clear hi
      go_enter Try.func15, Try.ntmps15
      go_wp2_with fail
      refine (proper_Mint ob ri ba ex true _ H.out).mono ?_
      rintro e w1 ⟨rfl, b1⟩
      go_wp2_with fail
      refine (askRight_is id true _ HA.out).mono ?_
      rintro e w2 ⟨rfl, rfl⟩
      go_wp2_with fail
      refine (op_Mint ob ri ba ex _).mono ?_
      rintro e w3 ⟨rfl, b3⟩
      go_wp2_with fail
      refine (pnumber_is 3 1 _ _ (by decide) (by decide) e1.out).mono ?_
      rintro e w4 ⟨rfl, b4⟩
      go_wp2_with fail
      refine (pnumber_is id 4 _ _ (by omega) (by omega) hx.out).mono ?_
      rintro e w5 ⟨rfl, b5⟩
      go_wp2_with fail
      refine (G.out _).mono ?_
      rintro e w6 ⟨rfl, b6⟩
      go_wp2_with fail
      go_ret2
      exact ⟨rfl, chain (chain (chain (chain b1 b3) b4) b5) b6⟩
theorem op_Derive (hd : ByteArray) (nm : ByteArray) (ri : Int) (ba : Int) (ex : Int) (w : World) : Calls Try.prog 104 #[.agg #[.string hd, .string nm, .int .i64 ri, .int .i64 ba, .int .i64 ex]] w fun e w' => e = .returned (.int .i64 4) ∧ Below w.heap.size w w' := by
  go_enter Try.func104, Try.ntmps104
  go_wp2_with fail
  go_ret
  exact ⟨rfl, (Below.refl _ _).alloc (Nat.le_refl _) _⟩
theorem mo_Derive (hd : ByteArray) (nm : ByteArray) (ri : Int) (ba : Int) (ex : Int) (w : World) : (method 321 83 (.agg #[.string hd, .string nm, .int .i64 ri, .int .i64 ba, .int .i64 ex]) "Op").run Try.prog w = .ok (104, .agg #[.string hd, .string nm, .int .i64 ri, .int .i64 ba, .int .i64 ex]) w := by kernel_rfl
theorem mf_Derive (hd : ByteArray) (nm : ByteArray) (ri : Int) (ba : Int) (ex : Int) (w : World) : (method 321 83 (.agg #[.string hd, .string nm, .int .i64 ri, .int .i64 ba, .int .i64 ex]) "bailiwick/proto.fields").run Try.prog w = .ok (106, .agg #[.string hd, .string nm, .int .i64 ri, .int .i64 ba, .int .i64 ex]) w := by kernel_rfl
set_option maxHeartbeats 1600000 in
set_option maxRecDepth 20000 in
theorem encode_Derive (hd : ByteArray) (nm : ByteArray) (ri : Int) (ba : Int) (ex : Int) (id : Int) (x f : ByteArray) (v a : Bool) (w : World) (hs : nm.size ≤ 140737488351232) (hv : deriveR hd nm ri ba ex = v) (ha : askOk id = a) (hx : Hid (Str (putL id 4) = x)) (sx : x.size ≤ 8)
    (HF : Hid (v = true → ∀ w, Calls Try.prog 106 #[.agg #[.string hd, .string nm, .int .i64 ri, .int .i64 ba, .int .i64 ex]] w fun e w' => e = .returned (.string f) ∧ Below w.heap.size w w')) (sf' : f.size ≤ 1000) :
    Calls Try.prog 15 #[.int .i64 id, .iface 83 (.agg #[.string hd, .string nm, .int .i64 ri, .int .i64 ba, .int .i64 ex])] w fun e w' => e = .returned (if (v && a) = true then .tuple #[.string ((⟨#[1]⟩ : ByteArray) ++ (⟨#[4]⟩ : ByteArray) ++ x ++ f), .int .i64 0] else .tuple #[.string ⟨#[]⟩, .int .i64 1]) ∧ Below w.heap.size w w' := by
  have hm1 := mo_Derive hd nm ri ba ex
  have hm2 := mf_Derive hd nm ri ba ex
  have H := Lib.hid hv
  have HA := Lib.hid ha
  have e1 : Hid (Str (putL 4 1) = ⟨#[4]⟩) := Lib.hid (by decide +kernel)
  have q1 : (⟨#[1]⟩ : ByteArray).size = 1 := by decide
  have q2 : (⟨#[4]⟩ : ByteArray).size = 1 := by decide
  have hi : a = true → 0 ≤ id ∧ id ≤ 4294967295 := fun h => askOk_iff.1 (ha.trans h)
  clear hv ha
  generalize hy : (⟨#[4]⟩ : ByteArray) = y at *
  clear hy
  cases v
  · go_enter Try.func15, Try.ntmps15
    go_wp2_with fail
    refine (proper_Derive hd nm ri ba ex false _ hs H.out).mono ?_
    rintro e w1 ⟨rfl, b1⟩
    go_wp2_with fail
    all_goals go_ret2
    all_goals exact ⟨rfl, b1⟩
  · have G := Lib.hid (HF.out rfl)
    clear HF
    cases a
    · go_enter Try.func15, Try.ntmps15
      go_wp2_with fail
      refine (proper_Derive hd nm ri ba ex true _ hs H.out).mono ?_
      rintro e w1 ⟨rfl, b1⟩
      go_wp2_with fail
      refine (askRight_is id false _ HA.out).mono ?_
      rintro e w2 ⟨rfl, rfl⟩
      go_wp2_with fail
      go_ret2
      exact ⟨rfl, b1⟩
    · have hi' := hi rfl
      clear hi
      go_enter Try.func15, Try.ntmps15
      go_wp2_with fail
      refine (proper_Derive hd nm ri ba ex true _ hs H.out).mono ?_
      rintro e w1 ⟨rfl, b1⟩
      go_wp2_with fail
      refine (askRight_is id true _ HA.out).mono ?_
      rintro e w2 ⟨rfl, rfl⟩
      go_wp2_with fail
      refine (op_Derive hd nm ri ba ex _).mono ?_
      rintro e w3 ⟨rfl, b3⟩
      go_wp2_with fail
      refine (pnumber_is 4 1 _ _ (by decide) (by decide) e1.out).mono ?_
      rintro e w4 ⟨rfl, b4⟩
      go_wp2_with fail
      refine (pnumber_is id 4 _ _ (by omega) (by omega) hx.out).mono ?_
      rintro e w5 ⟨rfl, b5⟩
      go_wp2_with fail
      refine (G.out _).mono ?_
      rintro e w6 ⟨rfl, b6⟩
      go_wp2_with fail
      go_ret2
      exact ⟨rfl, chain (chain (chain (chain b1 b3) b4) b5) b6⟩
theorem op_Renew (hd : ByteArray) (ex : Int) (w : World) : Calls Try.prog 94 #[.agg #[.string hd, .int .i64 ex]] w fun e w' => e = .returned (.int .i64 5) ∧ Below w.heap.size w w' := by
  go_enter Try.func94, Try.ntmps94
  go_wp2_with fail
  go_ret
  exact ⟨rfl, (Below.refl _ _).alloc (Nat.le_refl _) _⟩
theorem mo_Renew (hd : ByteArray) (ex : Int) (w : World) : (method 321 62 (.agg #[.string hd, .int .i64 ex]) "Op").run Try.prog w = .ok (94, .agg #[.string hd, .int .i64 ex]) w := by kernel_rfl
theorem mf_Renew (hd : ByteArray) (ex : Int) (w : World) : (method 321 62 (.agg #[.string hd, .int .i64 ex]) "bailiwick/proto.fields").run Try.prog w = .ok (96, .agg #[.string hd, .int .i64 ex]) w := by kernel_rfl
set_option maxHeartbeats 1600000 in
set_option maxRecDepth 20000 in
theorem encode_Renew (hd : ByteArray) (ex : Int) (id : Int) (x f : ByteArray) (v a : Bool) (w : World) (hv : renewR hd ex = v) (ha : askOk id = a) (hx : Hid (Str (putL id 4) = x)) (sx : x.size ≤ 8)
    (HF : Hid (v = true → ∀ w, Calls Try.prog 96 #[.agg #[.string hd, .int .i64 ex]] w fun e w' => e = .returned (.string f) ∧ Below w.heap.size w w')) (sf' : f.size ≤ 1000) :
    Calls Try.prog 15 #[.int .i64 id, .iface 62 (.agg #[.string hd, .int .i64 ex])] w fun e w' => e = .returned (if (v && a) = true then .tuple #[.string ((⟨#[1]⟩ : ByteArray) ++ (⟨#[5]⟩ : ByteArray) ++ x ++ f), .int .i64 0] else .tuple #[.string ⟨#[]⟩, .int .i64 1]) ∧ Below w.heap.size w w' := by
  have hm1 := mo_Renew hd ex
  have hm2 := mf_Renew hd ex
  have H := Lib.hid hv
  have HA := Lib.hid ha
  have e1 : Hid (Str (putL 5 1) = ⟨#[5]⟩) := Lib.hid (by decide +kernel)
  have q1 : (⟨#[1]⟩ : ByteArray).size = 1 := by decide
  have q2 : (⟨#[5]⟩ : ByteArray).size = 1 := by decide
  have hi : a = true → 0 ≤ id ∧ id ≤ 4294967295 := fun h => askOk_iff.1 (ha.trans h)
  clear hv ha
  generalize hy : (⟨#[5]⟩ : ByteArray) = y at *
  clear hy
  cases v
  · go_enter Try.func15, Try.ntmps15
    go_wp2_with fail
    refine (proper_Renew hd ex false _ H.out).mono ?_
    rintro e w1 ⟨rfl, b1⟩
    go_wp2_with fail
    all_goals go_ret2
    all_goals exact ⟨rfl, b1⟩
  · have G := Lib.hid (HF.out rfl)
    clear HF
    cases a
    · go_enter Try.func15, Try.ntmps15
      go_wp2_with fail
      refine (proper_Renew hd ex true _ H.out).mono ?_
      rintro e w1 ⟨rfl, b1⟩
      go_wp2_with fail
      refine (askRight_is id false _ HA.out).mono ?_
      rintro e w2 ⟨rfl, rfl⟩
      go_wp2_with fail
      go_ret2
      exact ⟨rfl, b1⟩
    · have hi' := hi rfl
      clear hi
      go_enter Try.func15, Try.ntmps15
      go_wp2_with fail
      refine (proper_Renew hd ex true _ H.out).mono ?_
      rintro e w1 ⟨rfl, b1⟩
      go_wp2_with fail
      refine (askRight_is id true _ HA.out).mono ?_
      rintro e w2 ⟨rfl, rfl⟩
      go_wp2_with fail
      refine (op_Renew hd ex _).mono ?_
      rintro e w3 ⟨rfl, b3⟩
      go_wp2_with fail
      refine (pnumber_is 5 1 _ _ (by decide) (by decide) e1.out).mono ?_
      rintro e w4 ⟨rfl, b4⟩
      go_wp2_with fail
      refine (pnumber_is id 4 _ _ (by omega) (by omega) hx.out).mono ?_
      rintro e w5 ⟨rfl, b5⟩
      go_wp2_with fail
      refine (G.out _).mono ?_
      rintro e w6 ⟨rfl, b6⟩
      go_wp2_with fail
      go_ret2
      exact ⟨rfl, chain (chain (chain (chain b1 b3) b4) b5) b6⟩
theorem op_Validate (hd : ByteArray) (w : World) : Calls Try.prog 81 #[.agg #[.string hd]] w fun e w' => e = .returned (.int .i64 6) ∧ Below w.heap.size w w' := by
  go_enter Try.func81, Try.ntmps81
  go_wp2_with fail
  go_ret
  exact ⟨rfl, (Below.refl _ _).alloc (Nat.le_refl _) _⟩
theorem mo_Validate (hd : ByteArray) (w : World) : (method 321 55 (.agg #[.string hd]) "Op").run Try.prog w = .ok (81, .agg #[.string hd]) w := by kernel_rfl
theorem mf_Validate (hd : ByteArray) (w : World) : (method 321 55 (.agg #[.string hd]) "bailiwick/proto.fields").run Try.prog w = .ok (83, .agg #[.string hd]) w := by kernel_rfl
set_option maxHeartbeats 1600000 in
set_option maxRecDepth 20000 in
theorem encode_Validate (hd : ByteArray) (id : Int) (x f : ByteArray) (v a : Bool) (w : World) (hv : validateR hd = v) (ha : askOk id = a) (hx : Hid (Str (putL id 4) = x)) (sx : x.size ≤ 8)
    (HF : Hid (v = true → ∀ w, Calls Try.prog 83 #[.agg #[.string hd]] w fun e w' => e = .returned (.string f) ∧ Below w.heap.size w w')) (sf' : f.size ≤ 1000) :
    Calls Try.prog 15 #[.int .i64 id, .iface 55 (.agg #[.string hd])] w fun e w' => e = .returned (if (v && a) = true then .tuple #[.string ((⟨#[1]⟩ : ByteArray) ++ (⟨#[6]⟩ : ByteArray) ++ x ++ f), .int .i64 0] else .tuple #[.string ⟨#[]⟩, .int .i64 1]) ∧ Below w.heap.size w w' := by
  have hm1 := mo_Validate hd
  have hm2 := mf_Validate hd
  have H := Lib.hid hv
  have HA := Lib.hid ha
  have e1 : Hid (Str (putL 6 1) = ⟨#[6]⟩) := Lib.hid (by decide +kernel)
  have q1 : (⟨#[1]⟩ : ByteArray).size = 1 := by decide
  have q2 : (⟨#[6]⟩ : ByteArray).size = 1 := by decide
  have hi : a = true → 0 ≤ id ∧ id ≤ 4294967295 := fun h => askOk_iff.1 (ha.trans h)
  clear hv ha
  generalize hy : (⟨#[6]⟩ : ByteArray) = y at *
  clear hy
  cases v
  · go_enter Try.func15, Try.ntmps15
    go_wp2_with fail
    refine (proper_Validate hd false _ H.out).mono ?_
    rintro e w1 ⟨rfl, b1⟩
    go_wp2_with fail
    all_goals go_ret2
    all_goals exact ⟨rfl, b1⟩
  · have G := Lib.hid (HF.out rfl)
    clear HF
    cases a
    · go_enter Try.func15, Try.ntmps15
      go_wp2_with fail
      refine (proper_Validate hd true _ H.out).mono ?_
      rintro e w1 ⟨rfl, b1⟩
      go_wp2_with fail
      refine (askRight_is id false _ HA.out).mono ?_
      rintro e w2 ⟨rfl, rfl⟩
      go_wp2_with fail
      go_ret2
      exact ⟨rfl, b1⟩
    · have hi' := hi rfl
      clear hi
      go_enter Try.func15, Try.ntmps15
      go_wp2_with fail
      refine (proper_Validate hd true _ H.out).mono ?_
      rintro e w1 ⟨rfl, b1⟩
      go_wp2_with fail
      refine (askRight_is id true _ HA.out).mono ?_
      rintro e w2 ⟨rfl, rfl⟩
      go_wp2_with fail
      refine (op_Validate hd _).mono ?_
      rintro e w3 ⟨rfl, b3⟩
      go_wp2_with fail
      refine (pnumber_is 6 1 _ _ (by decide) (by decide) e1.out).mono ?_
      rintro e w4 ⟨rfl, b4⟩
      go_wp2_with fail
      refine (pnumber_is id 4 _ _ (by omega) (by omega) hx.out).mono ?_
      rintro e w5 ⟨rfl, b5⟩
      go_wp2_with fail
      refine (G.out _).mono ?_
      rintro e w6 ⟨rfl, b6⟩
      go_wp2_with fail
      go_ret2
      exact ⟨rfl, chain (chain (chain (chain b1 b3) b4) b5) b6⟩
theorem op_Invoke (hd : ByteArray) (rt : Int) (w : World) : Calls Try.prog 86 #[.agg #[.string hd, .int .i32 rt]] w fun e w' => e = .returned (.int .i64 7) ∧ Below w.heap.size w w' := by
  go_enter Try.func86, Try.ntmps86
  go_wp2_with fail
  go_ret
  exact ⟨rfl, (Below.refl _ _).alloc (Nat.le_refl _) _⟩
theorem mo_Invoke (hd : ByteArray) (rt : Int) (w : World) : (method 321 58 (.agg #[.string hd, .int .i32 rt]) "Op").run Try.prog w = .ok (86, .agg #[.string hd, .int .i32 rt]) w := by kernel_rfl
theorem mf_Invoke (hd : ByteArray) (rt : Int) (w : World) : (method 321 58 (.agg #[.string hd, .int .i32 rt]) "bailiwick/proto.fields").run Try.prog w = .ok (88, .agg #[.string hd, .int .i32 rt]) w := by kernel_rfl
set_option maxHeartbeats 1600000 in
set_option maxRecDepth 20000 in
theorem encode_Invoke (hd : ByteArray) (rt : Int) (id : Int) (x f : ByteArray) (v a : Bool) (w : World) (hv : invokeR hd rt = v) (ha : askOk id = a) (hx : Hid (Str (putL id 4) = x)) (sx : x.size ≤ 8)
    (HF : Hid (v = true → ∀ w, Calls Try.prog 88 #[.agg #[.string hd, .int .i32 rt]] w fun e w' => e = .returned (.string f) ∧ Below w.heap.size w w')) (sf' : f.size ≤ 1000) :
    Calls Try.prog 15 #[.int .i64 id, .iface 58 (.agg #[.string hd, .int .i32 rt])] w fun e w' => e = .returned (if (v && a) = true then .tuple #[.string ((⟨#[1]⟩ : ByteArray) ++ (⟨#[7]⟩ : ByteArray) ++ x ++ f), .int .i64 0] else .tuple #[.string ⟨#[]⟩, .int .i64 1]) ∧ Below w.heap.size w w' := by
  have hm1 := mo_Invoke hd rt
  have hm2 := mf_Invoke hd rt
  have H := Lib.hid hv
  have HA := Lib.hid ha
  have e1 : Hid (Str (putL 7 1) = ⟨#[7]⟩) := Lib.hid (by decide +kernel)
  have q1 : (⟨#[1]⟩ : ByteArray).size = 1 := by decide
  have q2 : (⟨#[7]⟩ : ByteArray).size = 1 := by decide
  have hi : a = true → 0 ≤ id ∧ id ≤ 4294967295 := fun h => askOk_iff.1 (ha.trans h)
  clear hv ha
  generalize hy : (⟨#[7]⟩ : ByteArray) = y at *
  clear hy
  cases v
  · go_enter Try.func15, Try.ntmps15
    go_wp2_with fail
    refine (proper_Invoke hd rt false _ H.out).mono ?_
    rintro e w1 ⟨rfl, b1⟩
    go_wp2_with fail
    all_goals go_ret2
    all_goals exact ⟨rfl, b1⟩
  · have G := Lib.hid (HF.out rfl)
    clear HF
    cases a
    · go_enter Try.func15, Try.ntmps15
      go_wp2_with fail
      refine (proper_Invoke hd rt true _ H.out).mono ?_
      rintro e w1 ⟨rfl, b1⟩
      go_wp2_with fail
      refine (askRight_is id false _ HA.out).mono ?_
      rintro e w2 ⟨rfl, rfl⟩
      go_wp2_with fail
      go_ret2
      exact ⟨rfl, b1⟩
    · have hi' := hi rfl
      clear hi
      go_enter Try.func15, Try.ntmps15
      go_wp2_with fail
      refine (proper_Invoke hd rt true _ H.out).mono ?_
      rintro e w1 ⟨rfl, b1⟩
      go_wp2_with fail
      refine (askRight_is id true _ HA.out).mono ?_
      rintro e w2 ⟨rfl, rfl⟩
      go_wp2_with fail
      refine (op_Invoke hd rt _).mono ?_
      rintro e w3 ⟨rfl, b3⟩
      go_wp2_with fail
      refine (pnumber_is 7 1 _ _ (by decide) (by decide) e1.out).mono ?_
      rintro e w4 ⟨rfl, b4⟩
      go_wp2_with fail
      refine (pnumber_is id 4 _ _ (by omega) (by omega) hx.out).mono ?_
      rintro e w5 ⟨rfl, b5⟩
      go_wp2_with fail
      refine (G.out _).mono ?_
      rintro e w6 ⟨rfl, b6⟩
      go_wp2_with fail
      go_ret2
      exact ⟨rfl, chain (chain (chain (chain b1 b3) b4) b5) b6⟩
theorem op_Revoke (hd : ByteArray) (sf : Bool) (w : World) : Calls Try.prog 108 #[.agg #[.string hd, .bool sf]] w fun e w' => e = .returned (.int .i64 8) ∧ Below w.heap.size w w' := by
  go_enter Try.func108, Try.ntmps108
  go_wp2_with fail
  go_ret
  exact ⟨rfl, (Below.refl _ _).alloc (Nat.le_refl _) _⟩
theorem mo_Revoke (hd : ByteArray) (sf : Bool) (w : World) : (method 321 85 (.agg #[.string hd, .bool sf]) "Op").run Try.prog w = .ok (108, .agg #[.string hd, .bool sf]) w := by kernel_rfl
theorem mf_Revoke (hd : ByteArray) (sf : Bool) (w : World) : (method 321 85 (.agg #[.string hd, .bool sf]) "bailiwick/proto.fields").run Try.prog w = .ok (110, .agg #[.string hd, .bool sf]) w := by kernel_rfl
set_option maxHeartbeats 1600000 in
set_option maxRecDepth 20000 in
theorem encode_Revoke (hd : ByteArray) (sf : Bool) (id : Int) (x f : ByteArray) (v a : Bool) (w : World) (hv : revokeR hd = v) (ha : askOk id = a) (hx : Hid (Str (putL id 4) = x)) (sx : x.size ≤ 8)
    (HF : Hid (v = true → ∀ w, Calls Try.prog 110 #[.agg #[.string hd, .bool sf]] w fun e w' => e = .returned (.string f) ∧ Below w.heap.size w w')) (sf' : f.size ≤ 1000) :
    Calls Try.prog 15 #[.int .i64 id, .iface 85 (.agg #[.string hd, .bool sf])] w fun e w' => e = .returned (if (v && a) = true then .tuple #[.string ((⟨#[1]⟩ : ByteArray) ++ (⟨#[8]⟩ : ByteArray) ++ x ++ f), .int .i64 0] else .tuple #[.string ⟨#[]⟩, .int .i64 1]) ∧ Below w.heap.size w w' := by
  have hm1 := mo_Revoke hd sf
  have hm2 := mf_Revoke hd sf
  have H := Lib.hid hv
  have HA := Lib.hid ha
  have e1 : Hid (Str (putL 8 1) = ⟨#[8]⟩) := Lib.hid (by decide +kernel)
  have q1 : (⟨#[1]⟩ : ByteArray).size = 1 := by decide
  have q2 : (⟨#[8]⟩ : ByteArray).size = 1 := by decide
  have hi : a = true → 0 ≤ id ∧ id ≤ 4294967295 := fun h => askOk_iff.1 (ha.trans h)
  clear hv ha
  generalize hy : (⟨#[8]⟩ : ByteArray) = y at *
  clear hy
  cases v
  · go_enter Try.func15, Try.ntmps15
    go_wp2_with fail
    refine (proper_Revoke hd sf false _ H.out).mono ?_
    rintro e w1 ⟨rfl, b1⟩
    go_wp2_with fail
    all_goals go_ret2
    all_goals exact ⟨rfl, b1⟩
  · have G := Lib.hid (HF.out rfl)
    clear HF
    cases a
    · go_enter Try.func15, Try.ntmps15
      go_wp2_with fail
      refine (proper_Revoke hd sf true _ H.out).mono ?_
      rintro e w1 ⟨rfl, b1⟩
      go_wp2_with fail
      refine (askRight_is id false _ HA.out).mono ?_
      rintro e w2 ⟨rfl, rfl⟩
      go_wp2_with fail
      go_ret2
      exact ⟨rfl, b1⟩
    · have hi' := hi rfl
      clear hi
      go_enter Try.func15, Try.ntmps15
      go_wp2_with fail
      refine (proper_Revoke hd sf true _ H.out).mono ?_
      rintro e w1 ⟨rfl, b1⟩
      go_wp2_with fail
      refine (askRight_is id true _ HA.out).mono ?_
      rintro e w2 ⟨rfl, rfl⟩
      go_wp2_with fail
      refine (op_Revoke hd sf _).mono ?_
      rintro e w3 ⟨rfl, b3⟩
      go_wp2_with fail
      refine (pnumber_is 8 1 _ _ (by decide) (by decide) e1.out).mono ?_
      rintro e w4 ⟨rfl, b4⟩
      go_wp2_with fail
      refine (pnumber_is id 4 _ _ (by omega) (by omega) hx.out).mono ?_
      rintro e w5 ⟨rfl, b5⟩
      go_wp2_with fail
      refine (G.out _).mono ?_
      rintro e w6 ⟨rfl, b6⟩
      go_wp2_with fail
      go_ret2
      exact ⟨rfl, chain (chain (chain (chain b1 b3) b4) b5) b6⟩
theorem op_Delete (hd : ByteArray) (w : World) : Calls Try.prog 113 #[.agg #[.string hd]] w fun e w' => e = .returned (.int .i64 9) ∧ Below w.heap.size w w' := by
  go_enter Try.func113, Try.ntmps113
  go_wp2_with fail
  go_ret
  exact ⟨rfl, (Below.refl _ _).alloc (Nat.le_refl _) _⟩
theorem mo_Delete (hd : ByteArray) (w : World) : (method 321 86 (.agg #[.string hd]) "Op").run Try.prog w = .ok (113, .agg #[.string hd]) w := by kernel_rfl
theorem mf_Delete (hd : ByteArray) (w : World) : (method 321 86 (.agg #[.string hd]) "bailiwick/proto.fields").run Try.prog w = .ok (115, .agg #[.string hd]) w := by kernel_rfl
set_option maxHeartbeats 1600000 in
set_option maxRecDepth 20000 in
theorem encode_Delete (hd : ByteArray) (id : Int) (x f : ByteArray) (v a : Bool) (w : World) (hv : deleteR hd = v) (ha : askOk id = a) (hx : Hid (Str (putL id 4) = x)) (sx : x.size ≤ 8)
    (HF : Hid (v = true → ∀ w, Calls Try.prog 115 #[.agg #[.string hd]] w fun e w' => e = .returned (.string f) ∧ Below w.heap.size w w')) (sf' : f.size ≤ 1000) :
    Calls Try.prog 15 #[.int .i64 id, .iface 86 (.agg #[.string hd])] w fun e w' => e = .returned (if (v && a) = true then .tuple #[.string ((⟨#[1]⟩ : ByteArray) ++ (⟨#[9]⟩ : ByteArray) ++ x ++ f), .int .i64 0] else .tuple #[.string ⟨#[]⟩, .int .i64 1]) ∧ Below w.heap.size w w' := by
  have hm1 := mo_Delete hd
  have hm2 := mf_Delete hd
  have H := Lib.hid hv
  have HA := Lib.hid ha
  have e1 : Hid (Str (putL 9 1) = ⟨#[9]⟩) := Lib.hid (by decide +kernel)
  have q1 : (⟨#[1]⟩ : ByteArray).size = 1 := by decide
  have q2 : (⟨#[9]⟩ : ByteArray).size = 1 := by decide
  have hi : a = true → 0 ≤ id ∧ id ≤ 4294967295 := fun h => askOk_iff.1 (ha.trans h)
  clear hv ha
  generalize hy : (⟨#[9]⟩ : ByteArray) = y at *
  clear hy
  cases v
  · go_enter Try.func15, Try.ntmps15
    go_wp2_with fail
    refine (proper_Delete hd false _ H.out).mono ?_
    rintro e w1 ⟨rfl, b1⟩
    go_wp2_with fail
    all_goals go_ret2
    all_goals exact ⟨rfl, b1⟩
  · have G := Lib.hid (HF.out rfl)
    clear HF
    cases a
    · go_enter Try.func15, Try.ntmps15
      go_wp2_with fail
      refine (proper_Delete hd true _ H.out).mono ?_
      rintro e w1 ⟨rfl, b1⟩
      go_wp2_with fail
      refine (askRight_is id false _ HA.out).mono ?_
      rintro e w2 ⟨rfl, rfl⟩
      go_wp2_with fail
      go_ret2
      exact ⟨rfl, b1⟩
    · have hi' := hi rfl
      clear hi
      go_enter Try.func15, Try.ntmps15
      go_wp2_with fail
      refine (proper_Delete hd true _ H.out).mono ?_
      rintro e w1 ⟨rfl, b1⟩
      go_wp2_with fail
      refine (askRight_is id true _ HA.out).mono ?_
      rintro e w2 ⟨rfl, rfl⟩
      go_wp2_with fail
      refine (op_Delete hd _).mono ?_
      rintro e w3 ⟨rfl, b3⟩
      go_wp2_with fail
      refine (pnumber_is 9 1 _ _ (by decide) (by decide) e1.out).mono ?_
      rintro e w4 ⟨rfl, b4⟩
      go_wp2_with fail
      refine (pnumber_is id 4 _ _ (by omega) (by omega) hx.out).mono ?_
      rintro e w5 ⟨rfl, b5⟩
      go_wp2_with fail
      refine (G.out _).mono ?_
      rintro e w6 ⟨rfl, b6⟩
      go_wp2_with fail
      go_ret2
      exact ⟨rfl, chain (chain (chain (chain b1 b3) b4) b5) b6⟩
theorem op_Move (hd : ByteArray) (to : ByteArray) (w : World) : Calls Try.prog 117 #[.agg #[.string hd, .string to]] w fun e w' => e = .returned (.int .i64 10) ∧ Below w.heap.size w w' := by
  go_enter Try.func117, Try.ntmps117
  go_wp2_with fail
  go_ret
  exact ⟨rfl, (Below.refl _ _).alloc (Nat.le_refl _) _⟩
theorem mo_Move (hd : ByteArray) (to : ByteArray) (w : World) : (method 321 88 (.agg #[.string hd, .string to]) "Op").run Try.prog w = .ok (117, .agg #[.string hd, .string to]) w := by kernel_rfl
theorem mf_Move (hd : ByteArray) (to : ByteArray) (w : World) : (method 321 88 (.agg #[.string hd, .string to]) "bailiwick/proto.fields").run Try.prog w = .ok (119, .agg #[.string hd, .string to]) w := by kernel_rfl
set_option maxHeartbeats 1600000 in
set_option maxRecDepth 20000 in
theorem encode_Move (hd : ByteArray) (to : ByteArray) (id : Int) (x f : ByteArray) (v a : Bool) (w : World) (hv : moveR hd to = v) (ha : askOk id = a) (hx : Hid (Str (putL id 4) = x)) (sx : x.size ≤ 8)
    (HF : Hid (v = true → ∀ w, Calls Try.prog 119 #[.agg #[.string hd, .string to]] w fun e w' => e = .returned (.string f) ∧ Below w.heap.size w w')) (sf' : f.size ≤ 1000) :
    Calls Try.prog 15 #[.int .i64 id, .iface 88 (.agg #[.string hd, .string to])] w fun e w' => e = .returned (if (v && a) = true then .tuple #[.string ((⟨#[1]⟩ : ByteArray) ++ (⟨#[10]⟩ : ByteArray) ++ x ++ f), .int .i64 0] else .tuple #[.string ⟨#[]⟩, .int .i64 1]) ∧ Below w.heap.size w w' := by
  have hm1 := mo_Move hd to
  have hm2 := mf_Move hd to
  have H := Lib.hid hv
  have HA := Lib.hid ha
  have e1 : Hid (Str (putL 10 1) = ⟨#[10]⟩) := Lib.hid (by decide +kernel)
  have q1 : (⟨#[1]⟩ : ByteArray).size = 1 := by decide
  have q2 : (⟨#[10]⟩ : ByteArray).size = 1 := by decide
  have hi : a = true → 0 ≤ id ∧ id ≤ 4294967295 := fun h => askOk_iff.1 (ha.trans h)
  clear hv ha
  generalize hy : (⟨#[10]⟩ : ByteArray) = y at *
  clear hy
  cases v
  · go_enter Try.func15, Try.ntmps15
    go_wp2_with fail
    refine (proper_Move hd to false _ H.out).mono ?_
    rintro e w1 ⟨rfl, b1⟩
    go_wp2_with fail
    all_goals go_ret2
    all_goals exact ⟨rfl, b1⟩
  · have G := Lib.hid (HF.out rfl)
    clear HF
    cases a
    · go_enter Try.func15, Try.ntmps15
      go_wp2_with fail
      refine (proper_Move hd to true _ H.out).mono ?_
      rintro e w1 ⟨rfl, b1⟩
      go_wp2_with fail
      refine (askRight_is id false _ HA.out).mono ?_
      rintro e w2 ⟨rfl, rfl⟩
      go_wp2_with fail
      go_ret2
      exact ⟨rfl, b1⟩
    · have hi' := hi rfl
      clear hi
      go_enter Try.func15, Try.ntmps15
      go_wp2_with fail
      refine (proper_Move hd to true _ H.out).mono ?_
      rintro e w1 ⟨rfl, b1⟩
      go_wp2_with fail
      refine (askRight_is id true _ HA.out).mono ?_
      rintro e w2 ⟨rfl, rfl⟩
      go_wp2_with fail
      refine (op_Move hd to _).mono ?_
      rintro e w3 ⟨rfl, b3⟩
      go_wp2_with fail
      refine (pnumber_is 10 1 _ _ (by decide) (by decide) e1.out).mono ?_
      rintro e w4 ⟨rfl, b4⟩
      go_wp2_with fail
      refine (pnumber_is id 4 _ _ (by omega) (by omega) hx.out).mono ?_
      rintro e w5 ⟨rfl, b5⟩
      go_wp2_with fail
      refine (G.out _).mono ?_
      rintro e w6 ⟨rfl, b6⟩
      go_wp2_with fail
      go_ret2
      exact ⟨rfl, chain (chain (chain (chain b1 b3) b4) b5) b6⟩
theorem op_List (hd : ByteArray) (fr : Int) (mo : Int) (w : World) : Calls Try.prog 90 #[.agg #[.string hd, .int .i64 fr, .int .i64 mo]] w fun e w' => e = .returned (.int .i64 11) ∧ Below w.heap.size w w' := by
  go_enter Try.func90, Try.ntmps90
  go_wp2_with fail
  go_ret
  exact ⟨rfl, (Below.refl _ _).alloc (Nat.le_refl _) _⟩
theorem mo_List (hd : ByteArray) (fr : Int) (mo : Int) (w : World) : (method 321 60 (.agg #[.string hd, .int .i64 fr, .int .i64 mo]) "Op").run Try.prog w = .ok (90, .agg #[.string hd, .int .i64 fr, .int .i64 mo]) w := by kernel_rfl
theorem mf_List (hd : ByteArray) (fr : Int) (mo : Int) (w : World) : (method 321 60 (.agg #[.string hd, .int .i64 fr, .int .i64 mo]) "bailiwick/proto.fields").run Try.prog w = .ok (92, .agg #[.string hd, .int .i64 fr, .int .i64 mo]) w := by kernel_rfl
set_option maxHeartbeats 1600000 in
set_option maxRecDepth 20000 in
theorem encode_List (hd : ByteArray) (fr : Int) (mo : Int) (id : Int) (x f : ByteArray) (v a : Bool) (w : World) (hv : listR hd fr mo = v) (ha : askOk id = a) (hx : Hid (Str (putL id 4) = x)) (sx : x.size ≤ 8)
    (HF : Hid (v = true → ∀ w, Calls Try.prog 92 #[.agg #[.string hd, .int .i64 fr, .int .i64 mo]] w fun e w' => e = .returned (.string f) ∧ Below w.heap.size w w')) (sf' : f.size ≤ 1000) :
    Calls Try.prog 15 #[.int .i64 id, .iface 60 (.agg #[.string hd, .int .i64 fr, .int .i64 mo])] w fun e w' => e = .returned (if (v && a) = true then .tuple #[.string ((⟨#[1]⟩ : ByteArray) ++ (⟨#[11]⟩ : ByteArray) ++ x ++ f), .int .i64 0] else .tuple #[.string ⟨#[]⟩, .int .i64 1]) ∧ Below w.heap.size w w' := by
  have hm1 := mo_List hd fr mo
  have hm2 := mf_List hd fr mo
  have H := Lib.hid hv
  have HA := Lib.hid ha
  have e1 : Hid (Str (putL 11 1) = ⟨#[11]⟩) := Lib.hid (by decide +kernel)
  have q1 : (⟨#[1]⟩ : ByteArray).size = 1 := by decide
  have q2 : (⟨#[11]⟩ : ByteArray).size = 1 := by decide
  have hi : a = true → 0 ≤ id ∧ id ≤ 4294967295 := fun h => askOk_iff.1 (ha.trans h)
  clear hv ha
  generalize hy : (⟨#[11]⟩ : ByteArray) = y at *
  clear hy
  cases v
  · go_enter Try.func15, Try.ntmps15
    go_wp2_with fail
    refine (proper_List hd fr mo false _ H.out).mono ?_
    rintro e w1 ⟨rfl, b1⟩
    go_wp2_with fail
    all_goals go_ret2
    all_goals exact ⟨rfl, b1⟩
  · have G := Lib.hid (HF.out rfl)
    clear HF
    cases a
    · go_enter Try.func15, Try.ntmps15
      go_wp2_with fail
      refine (proper_List hd fr mo true _ H.out).mono ?_
      rintro e w1 ⟨rfl, b1⟩
      go_wp2_with fail
      refine (askRight_is id false _ HA.out).mono ?_
      rintro e w2 ⟨rfl, rfl⟩
      go_wp2_with fail
      go_ret2
      exact ⟨rfl, b1⟩
    · have hi' := hi rfl
      clear hi
      go_enter Try.func15, Try.ntmps15
      go_wp2_with fail
      refine (proper_List hd fr mo true _ H.out).mono ?_
      rintro e w1 ⟨rfl, b1⟩
      go_wp2_with fail
      refine (askRight_is id true _ HA.out).mono ?_
      rintro e w2 ⟨rfl, rfl⟩
      go_wp2_with fail
      refine (op_List hd fr mo _).mono ?_
      rintro e w3 ⟨rfl, b3⟩
      go_wp2_with fail
      refine (pnumber_is 11 1 _ _ (by decide) (by decide) e1.out).mono ?_
      rintro e w4 ⟨rfl, b4⟩
      go_wp2_with fail
      refine (pnumber_is id 4 _ _ (by omega) (by omega) hx.out).mono ?_
      rintro e w5 ⟨rfl, b5⟩
      go_wp2_with fail
      refine (G.out _).mono ?_
      rintro e w6 ⟨rfl, b6⟩
      go_wp2_with fail
      go_ret2
      exact ⟨rfl, chain (chain (chain (chain b1 b3) b4) b5) b6⟩
theorem op_Rotate  (w : World) : Calls Try.prog 121 #[.agg #[]] w fun e w' => e = .returned (.int .i64 13) ∧ Below w.heap.size w w' := by
  go_enter Try.func121, Try.ntmps121
  go_wp2_with fail
  go_ret
  exact ⟨rfl, (Below.refl _ _).alloc (Nat.le_refl _) _⟩
theorem mo_Rotate  (w : World) : (method 321 89 (.agg #[]) "Op").run Try.prog w = .ok (121, .agg #[]) w := by kernel_rfl
theorem mf_Rotate  (w : World) : (method 321 89 (.agg #[]) "bailiwick/proto.fields").run Try.prog w = .ok (122, .agg #[]) w := by kernel_rfl
set_option maxHeartbeats 1600000 in
set_option maxRecDepth 20000 in
theorem encode_Rotate  (id : Int) (x f : ByteArray) (v a : Bool) (w : World) (hv : rotateR  = v) (ha : askOk id = a) (hx : Hid (Str (putL id 4) = x)) (sx : x.size ≤ 8)
    (HF : Hid (v = true → ∀ w, Calls Try.prog 122 #[.agg #[]] w fun e w' => e = .returned (.string f) ∧ Below w.heap.size w w')) (sf' : f.size ≤ 1000) :
    Calls Try.prog 15 #[.int .i64 id, .iface 89 (.agg #[])] w fun e w' => e = .returned (if (v && a) = true then .tuple #[.string ((⟨#[1]⟩ : ByteArray) ++ (⟨#[13]⟩ : ByteArray) ++ x ++ f), .int .i64 0] else .tuple #[.string ⟨#[]⟩, .int .i64 1]) ∧ Below w.heap.size w w' := by
  have hm1 := mo_Rotate 
  have hm2 := mf_Rotate 
  have H := Lib.hid hv
  have HA := Lib.hid ha
  have e1 : Hid (Str (putL 13 1) = ⟨#[13]⟩) := Lib.hid (by decide +kernel)
  have q1 : (⟨#[1]⟩ : ByteArray).size = 1 := by decide
  have q2 : (⟨#[13]⟩ : ByteArray).size = 1 := by decide
  have hi : a = true → 0 ≤ id ∧ id ≤ 4294967295 := fun h => askOk_iff.1 (ha.trans h)
  clear hv ha
  generalize hy : (⟨#[13]⟩ : ByteArray) = y at *
  clear hy
  cases v
  · go_enter Try.func15, Try.ntmps15
    go_wp2_with fail
    refine (proper_Rotate  false _ H.out).mono ?_
    rintro e w1 ⟨rfl, b1⟩
    go_wp2_with fail
    all_goals go_ret2
    all_goals exact ⟨rfl, b1⟩
  · have G := Lib.hid (HF.out rfl)
    clear HF
    cases a
    · go_enter Try.func15, Try.ntmps15
      go_wp2_with fail
      refine (proper_Rotate  true _ H.out).mono ?_
      rintro e w1 ⟨rfl, b1⟩
      go_wp2_with fail
      refine (askRight_is id false _ HA.out).mono ?_
      rintro e w2 ⟨rfl, rfl⟩
      go_wp2_with fail
      go_ret2
      exact ⟨rfl, b1⟩
    · have hi' := hi rfl
      clear hi
      go_enter Try.func15, Try.ntmps15
      go_wp2_with fail
      refine (proper_Rotate  true _ H.out).mono ?_
      rintro e w1 ⟨rfl, b1⟩
      go_wp2_with fail
      refine (askRight_is id true _ HA.out).mono ?_
      rintro e w2 ⟨rfl, rfl⟩
      go_wp2_with fail
      refine (op_Rotate  _).mono ?_
      rintro e w3 ⟨rfl, b3⟩
      go_wp2_with fail
      refine (pnumber_is 13 1 _ _ (by decide) (by decide) e1.out).mono ?_
      rintro e w4 ⟨rfl, b4⟩
      go_wp2_with fail
      refine (pnumber_is id 4 _ _ (by omega) (by omega) hx.out).mono ?_
      rintro e w5 ⟨rfl, b5⟩
      go_wp2_with fail
      refine (G.out _).mono ?_
      rintro e w6 ⟨rfl, b6⟩
      go_wp2_with fail
      go_ret2
      exact ⟨rfl, chain (chain (chain (chain b1 b3) b4) b5) b6⟩
end Go.Proofs.Ytemhlhcaahaecaa
