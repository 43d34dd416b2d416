import Derived.Test.YtemhlhcaahaecaaProtoDec
import Derived.Test.YtemhlhcaahaecaaProtoSame
import Derived.Test.YtemhlhcaahaecaaProtoMade
namespace Go.Proofs.Ytemhlhcaahaecaa
open Go.RowKit
set_option linter.unusedVariables false
set_option linter.unusedSimpArgs false
set_option maxHeartbeats 3200000 in
set_option maxRecDepth 20000 in
theorem protoBack_no (id : Int) (op : Int) (nm : ByteArray) (hd : ByteArray) (to : ByteArray) (li : Int) (ob : Int) (ri : Int) (ba : Int) (ex : Int) (le : Int) (sf : Bool) (fr : Int) (mo : Int) (b more : ByteArray) (r : Value) (s : ByteArray) (n2 f2 g2 : Int) (x2 : Value) (t2 : ByteArray) (rt : Bool) (w : World)
    (M : Hid (∀ w, Calls Try.prog 14 #[.agg #[.int .i64 op, .string nm, .string hd, .string to, .int .i64 li, .int .i64 ob, .int .i64 ri, .int .i64 ba, .int .i64 ex, .int .i32 le, .bool sf, .int .i64 fr, .int .i64 mo]] w fun e w' => e = .returned r ∧ Below w.heap.size w w'))
    (E : Hid (∀ w, Calls Try.prog 15 #[.int .i64 id, r] w fun e w' => e = .returned (.tuple #[.string s, .int .i64 1]) ∧ Below w.heap.size w w'))
    (DB : Hid (∀ w, Calls Try.prog 16 #[.string b] w fun e w' => e = .returned (.tuple #[.int .i64 n2, x2, .int .i64 f2]) ∧ Below w.heap.size w w'))
    (E2 : Hid (∀ w, Calls Try.prog 15 #[.int .i64 n2, x2] w fun e w' => e = .returned (.tuple #[.string t2, .int .i64 g2]) ∧ Below w.heap.size w w'))
    (R2 : Hid (∀ w, Calls Try.prog 17 #[x2] w fun e w' => e = .returned (.bool rt) ∧ Below w.heap.size w w'))
    (H2 : Hid (f2 = 2 ∨ (f2 = 0 ∧ g2 = 0 ∧ t2 = b ∧ rt = true))) :
    Calls Try.prog 4 #[.int .i64 id, .agg #[.int .i64 op, .string nm, .string hd, .string to, .int .i64 li, .int .i64 ob, .int .i64 ri, .int .i64 ba, .int .i64 ex, .int .i32 le, .bool sf, .int .i64 fr, .int .i64 mo], .string b, .string more] w fun e w' => e = .returned (.bool true) ∧ Below w.heap.size w w' := by
  go_enter Try.func4, Try.ntmps4
  go_wp2_with fail
  refine (examples_any _).mono ?_
  rintro e w1 ⟨rfl, b1⟩
  have K1 : w1.heap[w.heap.size]? = some (.cells #[.int .i64 op, .string nm, .string hd, .string to, .int .i64 li, .int .i64 ob, .int .i64 ri, .int .i64 ba, .int .i64 ex, .int .i32 le, .bool sf, .int .i64 fr, .int .i64 mo] 34) := kept1 b1
  have B1 : Below w.heap.size w w1 := ((Below.refl _ _).alloc (Nat.le_refl _) _).trans (b1.mono (by simp))
  clear b1
  have k0 : w1.cell? ⟨w.heap.size, 0, none⟩ = some (.int .i64 op) := by rw [Go.Joins.cell_of_block K1]; rfl
  have k1 : w1.cell? ⟨w.heap.size, 1, none⟩ = some (.string nm) := by rw [Go.Joins.cell_of_block K1]; rfl
  have k2 : w1.cell? ⟨w.heap.size, 2, none⟩ = some (.string hd) := by rw [Go.Joins.cell_of_block K1]; rfl
  have k3 : w1.cell? ⟨w.heap.size, 3, none⟩ = some (.string to) := by rw [Go.Joins.cell_of_block K1]; rfl
  have k4 : w1.cell? ⟨w.heap.size, 4, none⟩ = some (.int .i64 li) := by rw [Go.Joins.cell_of_block K1]; rfl
  have k5 : w1.cell? ⟨w.heap.size, 5, none⟩ = some (.int .i64 ob) := by rw [Go.Joins.cell_of_block K1]; rfl
  have k6 : w1.cell? ⟨w.heap.size, 6, none⟩ = some (.int .i64 ri) := by rw [Go.Joins.cell_of_block K1]; rfl
  have k7 : w1.cell? ⟨w.heap.size, 7, none⟩ = some (.int .i64 ba) := by rw [Go.Joins.cell_of_block K1]; rfl
  have k8 : w1.cell? ⟨w.heap.size, 8, none⟩ = some (.int .i64 ex) := by rw [Go.Joins.cell_of_block K1]; rfl
  have k9 : w1.cell? ⟨w.heap.size, 9, none⟩ = some (.int .i32 le) := by rw [Go.Joins.cell_of_block K1]; rfl
  have k10 : w1.cell? ⟨w.heap.size, 10, none⟩ = some (.bool sf) := by rw [Go.Joins.cell_of_block K1]; rfl
  have k11 : w1.cell? ⟨w.heap.size, 11, none⟩ = some (.int .i64 fr) := by rw [Go.Joins.cell_of_block K1]; rfl
  have k12 : w1.cell? ⟨w.heap.size, 12, none⟩ = some (.int .i64 mo) := by rw [Go.Joins.cell_of_block K1]; rfl
  go_wp2_with fail
  refine (M.out _).mono ?_
  rintro e w2 ⟨rfl, b2⟩
  have B2 := Lib.hid (chain B1 b2)
  clear k0 k1 k2 k3 k4 k5 k6 k7 k8 k9 k10 k11 k12 K1 B1 b2 M
  go_wp2_with fail
  refine (E.out _).mono ?_
  rintro e w3 ⟨rfl, b3⟩
  replace B2 := Lib.hid (chain B2.out b3)
  clear b3 E
  go_wp2_with fail
  refine (DB.out _).mono ?_
  rintro e w6 ⟨rfl, b3⟩
  replace B2 := Lib.hid (chain B2.out b3)
  clear b3 DB
  go_wp2_with fail
  refine (E2.out _).mono ?_
  rintro e w7 ⟨rfl, b3⟩
  replace B2 := Lib.hid (chain B2.out b3)
  clear b3 E2
  rcases H2.out with rfl | ⟨rfl, rfl, rfl, rfl⟩
  · clear H2 R2
    go_wp2_with fail
    go_ret
    exact ⟨rfl, B2.out⟩
  · clear H2
    go_wp2_with fail
    refine (R2.out _).mono ?_
    rintro e w8 ⟨rfl, b3⟩
    replace B2 := Lib.hid (chain B2.out b3)
    clear b3 R2
    go_wp2_with fail
    go_ret
    exact ⟨rfl, B2.out⟩
set_option maxHeartbeats 3200000 in
set_option maxRecDepth 20000 in
theorem protoBack_yes (id : Int) (op : Int) (nm : ByteArray) (hd : ByteArray) (to : ByteArray) (li : Int) (ob : Int) (ri : Int) (ba : Int) (ex : Int) (le : Int) (sf : Bool) (fr : Int) (mo : Int) (b more : ByteArray) (T : TypeId) (v : Value) (s : ByteArray) (n1 g1 : Int) (x1 : Value) (n2 f2 g2 : Int) (x2 : Value) (t2 : ByteArray) (rt : Bool) (w : World) (hz : s.size + more.size ≤ 9223372036854775807)
    (M : Hid (∀ w, Calls Try.prog 14 #[.agg #[.int .i64 op, .string nm, .string hd, .string to, .int .i64 li, .int .i64 ob, .int .i64 ri, .int .i64 ba, .int .i64 ex, .int .i32 le, .bool sf, .int .i64 fr, .int .i64 mo]] w fun e w' => e = .returned (.iface T v) ∧ Below w.heap.size w w'))
    (E : Hid (∀ w, Calls Try.prog 15 #[.int .i64 id, .iface T v] w fun e w' => e = .returned (.tuple #[.string s, .int .i64 0]) ∧ Below w.heap.size w w'))
    (D0 : Hid (∀ w, Calls Try.prog 16 #[.string s] w fun e w' => e = .returned (.tuple #[.int .i64 id, .iface T v, .int .i64 0]) ∧ Below w.heap.size w w'))
    (D1 : Hid (∀ w, Calls Try.prog 16 #[.string (s ++ more)] w fun e w' => e = .returned (.tuple #[.int .i64 n1, x1, .int .i64 g1]) ∧ Below w.heap.size w w'))
    (NE : Hid (∀ w, (binOp .neq 20 (.iface T v) (.iface T v)).run Try.prog w = .ok (.bool false) w))
    (H1 : Hid ((more = ⟨#[]⟩ ∧ g1 = 0) ∨ ((more.toList == (⟨#[]⟩ : ByteArray).toList) = false ∧ g1 = 2)))
    (DB : Hid (∀ w, Calls Try.prog 16 #[.string b] w fun e w' => e = .returned (.tuple #[.int .i64 n2, x2, .int .i64 f2]) ∧ Below w.heap.size w w'))
    (E2 : Hid (∀ w, Calls Try.prog 15 #[.int .i64 n2, x2] w fun e w' => e = .returned (.tuple #[.string t2, .int .i64 g2]) ∧ Below w.heap.size w w'))
    (R2 : Hid (∀ w, Calls Try.prog 17 #[x2] w fun e w' => e = .returned (.bool rt) ∧ Below w.heap.size w w'))
    (H2 : Hid (f2 = 2 ∨ (f2 = 0 ∧ g2 = 0 ∧ t2 = b ∧ rt = true))) :
    Calls Try.prog 4 #[.int .i64 id, .agg #[.int .i64 op, .string nm, .string hd, .string to, .int .i64 li, .int .i64 ob, .int .i64 ri, .int .i64 ba, .int .i64 ex, .int .i32 le, .bool sf, .int .i64 fr, .int .i64 mo], .string b, .string more] w fun e w' => e = .returned (.bool true) ∧ Below w.heap.size w w' := by
  have ne := NE.out
  go_enter Try.func4, Try.ntmps4
  go_wp2_with fail
  refine (examples_any _).mono ?_
  rintro e w1 ⟨rfl, b1⟩
  have K1 : w1.heap[w.heap.size]? = some (.cells #[.int .i64 op, .string nm, .string hd, .string to, .int .i64 li, .int .i64 ob, .int .i64 ri, .int .i64 ba, .int .i64 ex, .int .i32 le, .bool sf, .int .i64 fr, .int .i64 mo] 34) := kept1 b1
  have B1 : Below w.heap.size w w1 := ((Below.refl _ _).alloc (Nat.le_refl _) _).trans (b1.mono (by simp))
  clear b1
  have k0 : w1.cell? ⟨w.heap.size, 0, none⟩ = some (.int .i64 op) := by rw [Go.Joins.cell_of_block K1]; rfl
  have k1 : w1.cell? ⟨w.heap.size, 1, none⟩ = some (.string nm) := by rw [Go.Joins.cell_of_block K1]; rfl
  have k2 : w1.cell? ⟨w.heap.size, 2, none⟩ = some (.string hd) := by rw [Go.Joins.cell_of_block K1]; rfl
  have k3 : w1.cell? ⟨w.heap.size, 3, none⟩ = some (.string to) := by rw [Go.Joins.cell_of_block K1]; rfl
  have k4 : w1.cell? ⟨w.heap.size, 4, none⟩ = some (.int .i64 li) := by rw [Go.Joins.cell_of_block K1]; rfl
  have k5 : w1.cell? ⟨w.heap.size, 5, none⟩ = some (.int .i64 ob) := by rw [Go.Joins.cell_of_block K1]; rfl
  have k6 : w1.cell? ⟨w.heap.size, 6, none⟩ = some (.int .i64 ri) := by rw [Go.Joins.cell_of_block K1]; rfl
  have k7 : w1.cell? ⟨w.heap.size, 7, none⟩ = some (.int .i64 ba) := by rw [Go.Joins.cell_of_block K1]; rfl
  have k8 : w1.cell? ⟨w.heap.size, 8, none⟩ = some (.int .i64 ex) := by rw [Go.Joins.cell_of_block K1]; rfl
  have k9 : w1.cell? ⟨w.heap.size, 9, none⟩ = some (.int .i32 le) := by rw [Go.Joins.cell_of_block K1]; rfl
  have k10 : w1.cell? ⟨w.heap.size, 10, none⟩ = some (.bool sf) := by rw [Go.Joins.cell_of_block K1]; rfl
  have k11 : w1.cell? ⟨w.heap.size, 11, none⟩ = some (.int .i64 fr) := by rw [Go.Joins.cell_of_block K1]; rfl
  have k12 : w1.cell? ⟨w.heap.size, 12, none⟩ = some (.int .i64 mo) := by rw [Go.Joins.cell_of_block K1]; rfl
  go_wp2_with fail
  refine (M.out _).mono ?_
  rintro e w2 ⟨rfl, b2⟩
  have B2 := Lib.hid (chain B1 b2)
  clear k0 k1 k2 k3 k4 k5 k6 k7 k8 k9 k10 k11 k12 K1 B1 b2 M
  go_wp2_with fail
  refine (E.out _).mono ?_
  rintro e w3 ⟨rfl, b3⟩
  replace B2 := Lib.hid (chain B2.out b3)
  clear b3 E
  go_wp2_with fail
  refine (D0.out _).mono ?_
  rintro e w4 ⟨rfl, b3⟩
  replace B2 := Lib.hid (chain B2.out b3)
  clear b3 D0
  go_wp2_with fail
  refine (D1.out _).mono ?_
  rintro e w5 ⟨rfl, b3⟩
  replace B2 := Lib.hid (chain B2.out b3)
  clear b3 D1
  rcases H1.out with ⟨rfl, rfl⟩ | ⟨hq, rfl⟩
  · clear H1
    go_wp2_with fail
    refine (DB.out _).mono ?_
    rintro e w6 ⟨rfl, b3⟩
    replace B2 := Lib.hid (chain B2.out b3)
    clear b3 DB
    go_wp2_with fail
    refine (E2.out _).mono ?_
    rintro e w7 ⟨rfl, b3⟩
    replace B2 := Lib.hid (chain B2.out b3)
    clear b3 E2
    rcases H2.out with rfl | ⟨rfl, rfl, rfl, rfl⟩
    · clear H2 R2
      go_wp2_with fail
      go_ret
      exact ⟨rfl, B2.out⟩
    · clear H2
      go_wp2_with fail
      refine (R2.out _).mono ?_
      rintro e w8 ⟨rfl, b3⟩
      replace B2 := Lib.hid (chain B2.out b3)
      clear b3 R2
      go_wp2_with fail
      go_ret
      exact ⟨rfl, B2.out⟩
  · clear H1
    have hq2 : more.toList.isEmpty = false := by
      cases hm : more.toList with
      | nil => rw [hm] at hq; exact absurd hq (by simp)
      | cons a l => rfl
    have hq3 : (more.toList = []) = False := by
      apply eq_false
      intro h
      rw [h] at hq2
      exact absurd hq2 (by decide)
    go_wp2_with fail
    refine (DB.out _).mono ?_
    rintro e w6 ⟨rfl, b3⟩
    replace B2 := Lib.hid (chain B2.out b3)
    clear b3 DB
    go_wp2_with fail
    refine (E2.out _).mono ?_
    rintro e w7 ⟨rfl, b3⟩
    replace B2 := Lib.hid (chain B2.out b3)
    clear b3 E2
    rcases H2.out with rfl | ⟨rfl, rfl, rfl, rfl⟩
    · clear H2 R2
      go_wp2_with fail
      go_ret
      exact ⟨rfl, B2.out⟩
    · clear H2
      go_wp2_with fail
      refine (R2.out _).mono ?_
      rintro e w8 ⟨rfl, b3⟩
      replace B2 := Lib.hid (chain B2.out b3)
      clear b3 R2
      go_wp2_with fail
      go_ret
      exact ⟨rfl, B2.out⟩
theorem enc_small {a : Bool} (op id : Int) (f : ByteArray) (ho : 0 ≤ op ∧ op ≤ 255) (ha : askOk id = true) : ((encS true op id f).size : Int) = 6 + (f.size : Int) := by
  have := encS_size op id f true ho ha
  omega
theorem dec_empty : ((⟨#[]⟩ : ByteArray).toList == (⟨#[]⟩ : ByteArray).toList) = true := by simp
theorem more_cases (m : ByteArray) : m = ⟨#[]⟩ ∨ (m.toList == (⟨#[]⟩ : ByteArray).toList) = false := by
  by_cases h : m.toList = (⟨#[]⟩ : ByteArray).toList
  · exact .inl (list_inj.1 h)
  · exact .inr (by simpa using h)
theorem protoBack_law (id : Int) (op : Int) (nm : ByteArray) (hd : ByteArray) (to : ByteArray) (li : Int) (ob : Int) (ri : Int) (ba : Int) (ex : Int) (le : Int) (sf : Bool) (fr : Int) (mo : Int) (b more : ByteArray) (w : World) (v_id : (Lit.int .i64 id).wf = true) (v_op : (Lit.int .i64 op).wf = true) (z_nm : nm.size ≤ 140737488351232) (z_hd : hd.size ≤ 140737488351232) (z_to : to.size ≤ 140737488351232) (v_li : (Lit.int .i64 li).wf = true) (v_ob : (Lit.int .i64 ob).wf = true) (v_ri : (Lit.int .i64 ri).wf = true) (v_ba : (Lit.int .i64 ba).wf = true) (v_ex : (Lit.int .i64 ex).wf = true) (v_le : (Lit.int .i32 le).wf = true) (v_fr : (Lit.int .i64 fr).wf = true) (v_mo : (Lit.int .i64 mo).wf = true) (z_b : b.size ≤ 140737488351232) (z_more : more.size ≤ 140737488351232) :
    Calls Try.prog 4 #[.int .i64 id, .agg #[.int .i64 op, .string nm, .string hd, .string to, .int .i64 li, .int .i64 ob, .int .i64 ri, .int .i64 ba, .int .i64 ex, .int .i32 le, .bool sf, .int .i64 fr, .int .i64 mo], .string b, .string more] w fun e w' => e = .returned (.bool true) ∧ Below w.heap.size w w' := by
  obtain ⟨n2, x2, f2, t2, g2, rt, DB, E2, R2, H2⟩ := dec_any b z_b
  rcases plK_cases op with hk | hk | hk | hk | hk | hk | hk | hk | hk | hk | hk | hk | hk
  · have E := fun w => enc_Hello nm id w z_nm
    cases hv : (helloR nm && askOk id)
    · rw [hv] at E
      exact protoBack_no id op nm hd to li ob ri ba ex le sf fr mo b more _ _ n2 f2 g2 x2 t2 rt w (Lib.hid fun w => made_Hello op nm hd to li ob ri ba ex le sf fr mo w v_op hk) (Lib.hid E) (Lib.hid DB) (Lib.hid E2) (Lib.hid R2) (Lib.hid H2)
    · rw [hv] at E
      rw [Bool.and_eq_true] at hv
      have hz := wr_Hello_size nm hv.1
      have hs := enc_small (a := true) 1 id (wr_Hello nm) (by decide) hv.2
      have D0 := fun w => back_Hello nm id ⟨#[]⟩ (by decide) z_nm hv.1 hv.2 w
      rw [append_empty, dec_empty] at D0
      rcases more_cases more with rfl | hq
      · exact protoBack_yes id op nm hd to li ob ri ba ex le sf fr mo b _ _ _ _ _ _ _ n2 f2 g2 x2 t2 rt w (by omega) (Lib.hid fun w => made_Hello op nm hd to li ob ri ba ex le sf fr mo w v_op hk) (Lib.hid E) (Lib.hid D0) (Lib.hid (by rw [append_empty]; exact D0)) (Lib.hid fun w => same_Hello nm w) (Lib.hid (.inl ⟨rfl, rfl⟩)) (Lib.hid DB) (Lib.hid E2) (Lib.hid R2) (Lib.hid H2)
      · have D1 := fun w => back_Hello nm id more z_more z_nm hv.1 hv.2 w
        rw [hq] at D1
        exact protoBack_yes id op nm hd to li ob ri ba ex le sf fr mo b _ _ _ _ _ _ _ n2 f2 g2 x2 t2 rt w (by omega) (Lib.hid fun w => made_Hello op nm hd to li ob ri ba ex le sf fr mo w v_op hk) (Lib.hid E) (Lib.hid D0) (Lib.hid D1) (Lib.hid fun w => same_Hello nm w) (Lib.hid (.inr ⟨hq, rfl⟩)) (Lib.hid DB) (Lib.hid E2) (Lib.hid R2) (Lib.hid H2)
  · have E := fun w => enc_Register nm li id w z_nm
    cases hv : (registerR nm li && askOk id)
    · rw [hv] at E
      exact protoBack_no id op nm hd to li ob ri ba ex le sf fr mo b more _ _ n2 f2 g2 x2 t2 rt w (Lib.hid fun w => made_Register op nm hd to li ob ri ba ex le sf fr mo w v_op hk) (Lib.hid E) (Lib.hid DB) (Lib.hid E2) (Lib.hid R2) (Lib.hid H2)
    · rw [hv] at E
      rw [Bool.and_eq_true] at hv
      have hz := wr_Register_size nm li hv.1
      have hs := enc_small (a := true) 2 id (wr_Register nm li) (by decide) hv.2
      have D0 := fun w => back_Register nm li id ⟨#[]⟩ (by decide) z_nm hv.1 hv.2 w
      rw [append_empty, dec_empty] at D0
      rcases more_cases more with rfl | hq
      · exact protoBack_yes id op nm hd to li ob ri ba ex le sf fr mo b _ _ _ _ _ _ _ n2 f2 g2 x2 t2 rt w (by omega) (Lib.hid fun w => made_Register op nm hd to li ob ri ba ex le sf fr mo w v_op hk) (Lib.hid E) (Lib.hid D0) (Lib.hid (by rw [append_empty]; exact D0)) (Lib.hid fun w => same_Register nm li w) (Lib.hid (.inl ⟨rfl, rfl⟩)) (Lib.hid DB) (Lib.hid E2) (Lib.hid R2) (Lib.hid H2)
      · have D1 := fun w => back_Register nm li id more z_more z_nm hv.1 hv.2 w
        rw [hq] at D1
        exact protoBack_yes id op nm hd to li ob ri ba ex le sf fr mo b _ _ _ _ _ _ _ n2 f2 g2 x2 t2 rt w (by omega) (Lib.hid fun w => made_Register op nm hd to li ob ri ba ex le sf fr mo w v_op hk) (Lib.hid E) (Lib.hid D0) (Lib.hid D1) (Lib.hid fun w => same_Register nm li w) (Lib.hid (.inr ⟨hq, rfl⟩)) (Lib.hid DB) (Lib.hid E2) (Lib.hid R2) (Lib.hid H2)
  · have E := fun w => enc_Mint ob ri ba ex id w
    cases hv : (mintR ob ri ba ex && askOk id)
    · rw [hv] at E
      exact protoBack_no id op nm hd to li ob ri ba ex le sf fr mo b more _ _ n2 f2 g2 x2 t2 rt w (Lib.hid fun w => made_Mint op nm hd to li ob ri ba ex le sf fr mo w v_op hk) (Lib.hid E) (Lib.hid DB) (Lib.hid E2) (Lib.hid R2) (Lib.hid H2)
    · rw [hv] at E
      rw [Bool.and_eq_true] at hv
      have hz := wr_Mint_size ob ri ba ex hv.1
      have hs := enc_small (a := true) 3 id (wr_Mint ob ri ba ex) (by decide) hv.2
      have hpc := pc_le 16 ri.toNat
      have D0 := fun w => back_Mint ob ri ba ex id ⟨#[]⟩ (by decide) hv.1 hv.2 w
      rw [append_empty, dec_empty] at D0
      rcases more_cases more with rfl | hq
      · exact protoBack_yes id op nm hd to li ob ri ba ex le sf fr mo b _ _ _ _ _ _ _ n2 f2 g2 x2 t2 rt w (by omega) (Lib.hid fun w => made_Mint op nm hd to li ob ri ba ex le sf fr mo w v_op hk) (Lib.hid E) (Lib.hid D0) (Lib.hid (by rw [append_empty]; exact D0)) (Lib.hid fun w => same_Mint ob ri ba ex w) (Lib.hid (.inl ⟨rfl, rfl⟩)) (Lib.hid DB) (Lib.hid E2) (Lib.hid R2) (Lib.hid H2)
      · have D1 := fun w => back_Mint ob ri ba ex id more z_more hv.1 hv.2 w
        rw [hq] at D1
        exact protoBack_yes id op nm hd to li ob ri ba ex le sf fr mo b _ _ _ _ _ _ _ n2 f2 g2 x2 t2 rt w (by omega) (Lib.hid fun w => made_Mint op nm hd to li ob ri ba ex le sf fr mo w v_op hk) (Lib.hid E) (Lib.hid D0) (Lib.hid D1) (Lib.hid fun w => same_Mint ob ri ba ex w) (Lib.hid (.inr ⟨hq, rfl⟩)) (Lib.hid DB) (Lib.hid E2) (Lib.hid R2) (Lib.hid H2)
  · have E := fun w => enc_Derive hd nm ri ba ex id w z_nm
    cases hv : (deriveR hd nm ri ba ex && askOk id)
    · rw [hv] at E
      exact protoBack_no id op nm hd to li ob ri ba ex le sf fr mo b more _ _ n2 f2 g2 x2 t2 rt w (Lib.hid fun w => made_Derive op nm hd to li ob ri ba ex le sf fr mo w v_op hk) (Lib.hid E) (Lib.hid DB) (Lib.hid E2) (Lib.hid R2) (Lib.hid H2)
    · rw [hv] at E
      rw [Bool.and_eq_true] at hv
      have hz := wr_Derive_size hd nm ri ba ex hv.1
      have hs := enc_small (a := true) 4 id (wr_Derive hd nm ri ba ex) (by decide) hv.2
      have hpc := pc_le 16 ri.toNat
      have D0 := fun w => back_Derive hd nm ri ba ex id ⟨#[]⟩ (by decide) z_nm hv.1 hv.2 w
      rw [append_empty, dec_empty] at D0
      rcases more_cases more with rfl | hq
      · exact protoBack_yes id op nm hd to li ob ri ba ex le sf fr mo b _ _ _ _ _ _ _ n2 f2 g2 x2 t2 rt w (by omega) (Lib.hid fun w => made_Derive op nm hd to li ob ri ba ex le sf fr mo w v_op hk) (Lib.hid E) (Lib.hid D0) (Lib.hid (by rw [append_empty]; exact D0)) (Lib.hid fun w => same_Derive hd nm ri ba ex w) (Lib.hid (.inl ⟨rfl, rfl⟩)) (Lib.hid DB) (Lib.hid E2) (Lib.hid R2) (Lib.hid H2)
      · have D1 := fun w => back_Derive hd nm ri ba ex id more z_more z_nm hv.1 hv.2 w
        rw [hq] at D1
        exact protoBack_yes id op nm hd to li ob ri ba ex le sf fr mo b _ _ _ _ _ _ _ n2 f2 g2 x2 t2 rt w (by omega) (Lib.hid fun w => made_Derive op nm hd to li ob ri ba ex le sf fr mo w v_op hk) (Lib.hid E) (Lib.hid D0) (Lib.hid D1) (Lib.hid fun w => same_Derive hd nm ri ba ex w) (Lib.hid (.inr ⟨hq, rfl⟩)) (Lib.hid DB) (Lib.hid E2) (Lib.hid R2) (Lib.hid H2)
  · have E := fun w => enc_Renew hd ex id w
    cases hv : (renewR hd ex && askOk id)
    · rw [hv] at E
      exact protoBack_no id op nm hd to li ob ri ba ex le sf fr mo b more _ _ n2 f2 g2 x2 t2 rt w (Lib.hid fun w => made_Renew op nm hd to li ob ri ba ex le sf fr mo w v_op hk) (Lib.hid E) (Lib.hid DB) (Lib.hid E2) (Lib.hid R2) (Lib.hid H2)
    · rw [hv] at E
      rw [Bool.and_eq_true] at hv
      have hz := wr_Renew_size hd ex hv.1
      have hs := enc_small (a := true) 5 id (wr_Renew hd ex) (by decide) hv.2
      have D0 := fun w => back_Renew hd ex id ⟨#[]⟩ (by decide) hv.1 hv.2 w
      rw [append_empty, dec_empty] at D0
      rcases more_cases more with rfl | hq
      · exact protoBack_yes id op nm hd to li ob ri ba ex le sf fr mo b _ _ _ _ _ _ _ n2 f2 g2 x2 t2 rt w (by omega) (Lib.hid fun w => made_Renew op nm hd to li ob ri ba ex le sf fr mo w v_op hk) (Lib.hid E) (Lib.hid D0) (Lib.hid (by rw [append_empty]; exact D0)) (Lib.hid fun w => same_Renew hd ex w) (Lib.hid (.inl ⟨rfl, rfl⟩)) (Lib.hid DB) (Lib.hid E2) (Lib.hid R2) (Lib.hid H2)
      · have D1 := fun w => back_Renew hd ex id more z_more hv.1 hv.2 w
        rw [hq] at D1
        exact protoBack_yes id op nm hd to li ob ri ba ex le sf fr mo b _ _ _ _ _ _ _ n2 f2 g2 x2 t2 rt w (by omega) (Lib.hid fun w => made_Renew op nm hd to li ob ri ba ex le sf fr mo w v_op hk) (Lib.hid E) (Lib.hid D0) (Lib.hid D1) (Lib.hid fun w => same_Renew hd ex w) (Lib.hid (.inr ⟨hq, rfl⟩)) (Lib.hid DB) (Lib.hid E2) (Lib.hid R2) (Lib.hid H2)
  · have E := fun w => enc_Validate hd id w
    cases hv : (validateR hd && askOk id)
    · rw [hv] at E
      exact protoBack_no id op nm hd to li ob ri ba ex le sf fr mo b more _ _ n2 f2 g2 x2 t2 rt w (Lib.hid fun w => made_Validate op nm hd to li ob ri ba ex le sf fr mo w v_op hk) (Lib.hid E) (Lib.hid DB) (Lib.hid E2) (Lib.hid R2) (Lib.hid H2)
    · rw [hv] at E
      rw [Bool.and_eq_true] at hv
      have hz := wr_Validate_size hd hv.1
      have hs := enc_small (a := true) 6 id (wr_Validate hd) (by decide) hv.2
      have D0 := fun w => back_Validate hd id ⟨#[]⟩ (by decide) hv.1 hv.2 w
      rw [append_empty, dec_empty] at D0
      rcases more_cases more with rfl | hq
      · exact protoBack_yes id op nm hd to li ob ri ba ex le sf fr mo b _ _ _ _ _ _ _ n2 f2 g2 x2 t2 rt w (by omega) (Lib.hid fun w => made_Validate op nm hd to li ob ri ba ex le sf fr mo w v_op hk) (Lib.hid E) (Lib.hid D0) (Lib.hid (by rw [append_empty]; exact D0)) (Lib.hid fun w => same_Validate hd w) (Lib.hid (.inl ⟨rfl, rfl⟩)) (Lib.hid DB) (Lib.hid E2) (Lib.hid R2) (Lib.hid H2)
      · have D1 := fun w => back_Validate hd id more z_more hv.1 hv.2 w
        rw [hq] at D1
        exact protoBack_yes id op nm hd to li ob ri ba ex le sf fr mo b _ _ _ _ _ _ _ n2 f2 g2 x2 t2 rt w (by omega) (Lib.hid fun w => made_Validate op nm hd to li ob ri ba ex le sf fr mo w v_op hk) (Lib.hid E) (Lib.hid D0) (Lib.hid D1) (Lib.hid fun w => same_Validate hd w) (Lib.hid (.inr ⟨hq, rfl⟩)) (Lib.hid DB) (Lib.hid E2) (Lib.hid R2) (Lib.hid H2)
  · have E := fun w => enc_Invoke hd le id w
    cases hv : (invokeR hd le && askOk id)
    · rw [hv] at E
      exact protoBack_no id op nm hd to li ob ri ba ex le sf fr mo b more _ _ n2 f2 g2 x2 t2 rt w (Lib.hid fun w => made_Invoke op nm hd to li ob ri ba ex le sf fr mo w v_op hk) (Lib.hid E) (Lib.hid DB) (Lib.hid E2) (Lib.hid R2) (Lib.hid H2)
    · rw [hv] at E
      rw [Bool.and_eq_true] at hv
      have hz := wr_Invoke_size hd le hv.1
      have hs := enc_small (a := true) 7 id (wr_Invoke hd le) (by decide) hv.2
      have D0 := fun w => back_Invoke hd le id ⟨#[]⟩ (by decide) hv.1 hv.2 w
      rw [append_empty, dec_empty] at D0
      rcases more_cases more with rfl | hq
      · exact protoBack_yes id op nm hd to li ob ri ba ex le sf fr mo b _ _ _ _ _ _ _ n2 f2 g2 x2 t2 rt w (by omega) (Lib.hid fun w => made_Invoke op nm hd to li ob ri ba ex le sf fr mo w v_op hk) (Lib.hid E) (Lib.hid D0) (Lib.hid (by rw [append_empty]; exact D0)) (Lib.hid fun w => same_Invoke hd le w) (Lib.hid (.inl ⟨rfl, rfl⟩)) (Lib.hid DB) (Lib.hid E2) (Lib.hid R2) (Lib.hid H2)
      · have D1 := fun w => back_Invoke hd le id more z_more hv.1 hv.2 w
        rw [hq] at D1
        exact protoBack_yes id op nm hd to li ob ri ba ex le sf fr mo b _ _ _ _ _ _ _ n2 f2 g2 x2 t2 rt w (by omega) (Lib.hid fun w => made_Invoke op nm hd to li ob ri ba ex le sf fr mo w v_op hk) (Lib.hid E) (Lib.hid D0) (Lib.hid D1) (Lib.hid fun w => same_Invoke hd le w) (Lib.hid (.inr ⟨hq, rfl⟩)) (Lib.hid DB) (Lib.hid E2) (Lib.hid R2) (Lib.hid H2)
  · have E := fun w => enc_Revoke hd sf id w
    cases hv : (revokeR hd && askOk id)
    · rw [hv] at E
      exact protoBack_no id op nm hd to li ob ri ba ex le sf fr mo b more _ _ n2 f2 g2 x2 t2 rt w (Lib.hid fun w => made_Revoke op nm hd to li ob ri ba ex le sf fr mo w v_op hk) (Lib.hid E) (Lib.hid DB) (Lib.hid E2) (Lib.hid R2) (Lib.hid H2)
    · rw [hv] at E
      rw [Bool.and_eq_true] at hv
      have hz := wr_Revoke_size hd sf hv.1
      have hs := enc_small (a := true) 8 id (wr_Revoke hd sf) (by decide) hv.2
      have D0 := fun w => back_Revoke hd sf id ⟨#[]⟩ (by decide) hv.1 hv.2 w
      rw [append_empty, dec_empty] at D0
      rcases more_cases more with rfl | hq
      · exact protoBack_yes id op nm hd to li ob ri ba ex le sf fr mo b _ _ _ _ _ _ _ n2 f2 g2 x2 t2 rt w (by omega) (Lib.hid fun w => made_Revoke op nm hd to li ob ri ba ex le sf fr mo w v_op hk) (Lib.hid E) (Lib.hid D0) (Lib.hid (by rw [append_empty]; exact D0)) (Lib.hid fun w => same_Revoke hd sf w) (Lib.hid (.inl ⟨rfl, rfl⟩)) (Lib.hid DB) (Lib.hid E2) (Lib.hid R2) (Lib.hid H2)
      · have D1 := fun w => back_Revoke hd sf id more z_more hv.1 hv.2 w
        rw [hq] at D1
        exact protoBack_yes id op nm hd to li ob ri ba ex le sf fr mo b _ _ _ _ _ _ _ n2 f2 g2 x2 t2 rt w (by omega) (Lib.hid fun w => made_Revoke op nm hd to li ob ri ba ex le sf fr mo w v_op hk) (Lib.hid E) (Lib.hid D0) (Lib.hid D1) (Lib.hid fun w => same_Revoke hd sf w) (Lib.hid (.inr ⟨hq, rfl⟩)) (Lib.hid DB) (Lib.hid E2) (Lib.hid R2) (Lib.hid H2)
  · have E := fun w => enc_Delete hd id w
    cases hv : (deleteR hd && askOk id)
    · rw [hv] at E
      exact protoBack_no id op nm hd to li ob ri ba ex le sf fr mo b more _ _ n2 f2 g2 x2 t2 rt w (Lib.hid fun w => made_Delete op nm hd to li ob ri ba ex le sf fr mo w v_op hk) (Lib.hid E) (Lib.hid DB) (Lib.hid E2) (Lib.hid R2) (Lib.hid H2)
    · rw [hv] at E
      rw [Bool.and_eq_true] at hv
      have hz := wr_Delete_size hd hv.1
      have hs := enc_small (a := true) 9 id (wr_Delete hd) (by decide) hv.2
      have D0 := fun w => back_Delete hd id ⟨#[]⟩ (by decide) hv.1 hv.2 w
      rw [append_empty, dec_empty] at D0
      rcases more_cases more with rfl | hq
      · exact protoBack_yes id op nm hd to li ob ri ba ex le sf fr mo b _ _ _ _ _ _ _ n2 f2 g2 x2 t2 rt w (by omega) (Lib.hid fun w => made_Delete op nm hd to li ob ri ba ex le sf fr mo w v_op hk) (Lib.hid E) (Lib.hid D0) (Lib.hid (by rw [append_empty]; exact D0)) (Lib.hid fun w => same_Delete hd w) (Lib.hid (.inl ⟨rfl, rfl⟩)) (Lib.hid DB) (Lib.hid E2) (Lib.hid R2) (Lib.hid H2)
      · have D1 := fun w => back_Delete hd id more z_more hv.1 hv.2 w
        rw [hq] at D1
        exact protoBack_yes id op nm hd to li ob ri ba ex le sf fr mo b _ _ _ _ _ _ _ n2 f2 g2 x2 t2 rt w (by omega) (Lib.hid fun w => made_Delete op nm hd to li ob ri ba ex le sf fr mo w v_op hk) (Lib.hid E) (Lib.hid D0) (Lib.hid D1) (Lib.hid fun w => same_Delete hd w) (Lib.hid (.inr ⟨hq, rfl⟩)) (Lib.hid DB) (Lib.hid E2) (Lib.hid R2) (Lib.hid H2)
  · have E := fun w => enc_Move hd to id w
    cases hv : (moveR hd to && askOk id)
    · rw [hv] at E
      exact protoBack_no id op nm hd to li ob ri ba ex le sf fr mo b more _ _ n2 f2 g2 x2 t2 rt w (Lib.hid fun w => made_Move op nm hd to li ob ri ba ex le sf fr mo w v_op hk) (Lib.hid E) (Lib.hid DB) (Lib.hid E2) (Lib.hid R2) (Lib.hid H2)
    · rw [hv] at E
      rw [Bool.and_eq_true] at hv
      have hz := wr_Move_size hd to hv.1
      have hs := enc_small (a := true) 10 id (wr_Move hd to) (by decide) hv.2
      have D0 := fun w => back_Move hd to id ⟨#[]⟩ (by decide) hv.1 hv.2 w
      rw [append_empty, dec_empty] at D0
      rcases more_cases more with rfl | hq
      · exact protoBack_yes id op nm hd to li ob ri ba ex le sf fr mo b _ _ _ _ _ _ _ n2 f2 g2 x2 t2 rt w (by omega) (Lib.hid fun w => made_Move op nm hd to li ob ri ba ex le sf fr mo w v_op hk) (Lib.hid E) (Lib.hid D0) (Lib.hid (by rw [append_empty]; exact D0)) (Lib.hid fun w => same_Move hd to w) (Lib.hid (.inl ⟨rfl, rfl⟩)) (Lib.hid DB) (Lib.hid E2) (Lib.hid R2) (Lib.hid H2)
      · have D1 := fun w => back_Move hd to id more z_more hv.1 hv.2 w
        rw [hq] at D1
        exact protoBack_yes id op nm hd to li ob ri ba ex le sf fr mo b _ _ _ _ _ _ _ n2 f2 g2 x2 t2 rt w (by omega) (Lib.hid fun w => made_Move op nm hd to li ob ri ba ex le sf fr mo w v_op hk) (Lib.hid E) (Lib.hid D0) (Lib.hid D1) (Lib.hid fun w => same_Move hd to w) (Lib.hid (.inr ⟨hq, rfl⟩)) (Lib.hid DB) (Lib.hid E2) (Lib.hid R2) (Lib.hid H2)
  · have E := fun w => enc_List hd fr mo id w
    cases hv : (listR hd fr mo && askOk id)
    · rw [hv] at E
      exact protoBack_no id op nm hd to li ob ri ba ex le sf fr mo b more _ _ n2 f2 g2 x2 t2 rt w (Lib.hid fun w => made_List op nm hd to li ob ri ba ex le sf fr mo w v_op hk) (Lib.hid E) (Lib.hid DB) (Lib.hid E2) (Lib.hid R2) (Lib.hid H2)
    · rw [hv] at E
      rw [Bool.and_eq_true] at hv
      have hz := wr_List_size hd fr mo hv.1
      have hs := enc_small (a := true) 11 id (wr_List hd fr mo) (by decide) hv.2
      have D0 := fun w => back_List hd fr mo id ⟨#[]⟩ (by decide) hv.1 hv.2 w
      rw [append_empty, dec_empty] at D0
      rcases more_cases more with rfl | hq
      · exact protoBack_yes id op nm hd to li ob ri ba ex le sf fr mo b _ _ _ _ _ _ _ n2 f2 g2 x2 t2 rt w (by omega) (Lib.hid fun w => made_List op nm hd to li ob ri ba ex le sf fr mo w v_op hk) (Lib.hid E) (Lib.hid D0) (Lib.hid (by rw [append_empty]; exact D0)) (Lib.hid fun w => same_List hd fr mo w) (Lib.hid (.inl ⟨rfl, rfl⟩)) (Lib.hid DB) (Lib.hid E2) (Lib.hid R2) (Lib.hid H2)
      · have D1 := fun w => back_List hd fr mo id more z_more hv.1 hv.2 w
        rw [hq] at D1
        exact protoBack_yes id op nm hd to li ob ri ba ex le sf fr mo b _ _ _ _ _ _ _ n2 f2 g2 x2 t2 rt w (by omega) (Lib.hid fun w => made_List op nm hd to li ob ri ba ex le sf fr mo w v_op hk) (Lib.hid E) (Lib.hid D0) (Lib.hid D1) (Lib.hid fun w => same_List hd fr mo w) (Lib.hid (.inr ⟨hq, rfl⟩)) (Lib.hid DB) (Lib.hid E2) (Lib.hid R2) (Lib.hid H2)
  · have E := fun w => enc_Quota  id w
    cases hv : (quotaR  && askOk id)
    · rw [hv] at E
      exact protoBack_no id op nm hd to li ob ri ba ex le sf fr mo b more _ _ n2 f2 g2 x2 t2 rt w (Lib.hid fun w => made_Quota op nm hd to li ob ri ba ex le sf fr mo w v_op hk) (Lib.hid E) (Lib.hid DB) (Lib.hid E2) (Lib.hid R2) (Lib.hid H2)
    · rw [hv] at E
      rw [Bool.and_eq_true] at hv
      have hz := wr_Quota_size  hv.1
      have hs := enc_small (a := true) 12 id (wr_Quota ) (by decide) hv.2
      have D0 := fun w => back_Quota  id ⟨#[]⟩ (by decide) hv.1 hv.2 w
      rw [append_empty, dec_empty] at D0
      rcases more_cases more with rfl | hq
      · exact protoBack_yes id op nm hd to li ob ri ba ex le sf fr mo b _ _ _ _ _ _ _ n2 f2 g2 x2 t2 rt w (by omega) (Lib.hid fun w => made_Quota op nm hd to li ob ri ba ex le sf fr mo w v_op hk) (Lib.hid E) (Lib.hid D0) (Lib.hid (by rw [append_empty]; exact D0)) (Lib.hid fun w => same_Quota  w) (Lib.hid (.inl ⟨rfl, rfl⟩)) (Lib.hid DB) (Lib.hid E2) (Lib.hid R2) (Lib.hid H2)
      · have D1 := fun w => back_Quota  id more z_more hv.1 hv.2 w
        rw [hq] at D1
        exact protoBack_yes id op nm hd to li ob ri ba ex le sf fr mo b _ _ _ _ _ _ _ n2 f2 g2 x2 t2 rt w (by omega) (Lib.hid fun w => made_Quota op nm hd to li ob ri ba ex le sf fr mo w v_op hk) (Lib.hid E) (Lib.hid D0) (Lib.hid D1) (Lib.hid fun w => same_Quota  w) (Lib.hid (.inr ⟨hq, rfl⟩)) (Lib.hid DB) (Lib.hid E2) (Lib.hid R2) (Lib.hid H2)
  · have E := fun w => enc_Rotate  id w
    cases hv : (rotateR  && askOk id)
    · rw [hv] at E
      exact protoBack_no id op nm hd to li ob ri ba ex le sf fr mo b more _ _ n2 f2 g2 x2 t2 rt w (Lib.hid fun w => made_Rotate op nm hd to li ob ri ba ex le sf fr mo w v_op hk) (Lib.hid E) (Lib.hid DB) (Lib.hid E2) (Lib.hid R2) (Lib.hid H2)
    · rw [hv] at E
      rw [Bool.and_eq_true] at hv
      have hz := wr_Rotate_size  hv.1
      have hs := enc_small (a := true) 13 id (wr_Rotate ) (by decide) hv.2
      have D0 := fun w => back_Rotate  id ⟨#[]⟩ (by decide) hv.1 hv.2 w
      rw [append_empty, dec_empty] at D0
      rcases more_cases more with rfl | hq
      · exact protoBack_yes id op nm hd to li ob ri ba ex le sf fr mo b _ _ _ _ _ _ _ n2 f2 g2 x2 t2 rt w (by omega) (Lib.hid fun w => made_Rotate op nm hd to li ob ri ba ex le sf fr mo w v_op hk) (Lib.hid E) (Lib.hid D0) (Lib.hid (by rw [append_empty]; exact D0)) (Lib.hid fun w => same_Rotate  w) (Lib.hid (.inl ⟨rfl, rfl⟩)) (Lib.hid DB) (Lib.hid E2) (Lib.hid R2) (Lib.hid H2)
      · have D1 := fun w => back_Rotate  id more z_more hv.1 hv.2 w
        rw [hq] at D1
        exact protoBack_yes id op nm hd to li ob ri ba ex le sf fr mo b _ _ _ _ _ _ _ n2 f2 g2 x2 t2 rt w (by omega) (Lib.hid fun w => made_Rotate op nm hd to li ob ri ba ex le sf fr mo w v_op hk) (Lib.hid E) (Lib.hid D0) (Lib.hid D1) (Lib.hid fun w => same_Rotate  w) (Lib.hid (.inr ⟨hq, rfl⟩)) (Lib.hid DB) (Lib.hid E2) (Lib.hid R2) (Lib.hid H2)
end Go.Proofs.Ytemhlhcaahaecaa
