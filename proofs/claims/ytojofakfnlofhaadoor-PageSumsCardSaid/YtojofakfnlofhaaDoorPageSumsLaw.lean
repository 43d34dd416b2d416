import Derived.Test.YtojofakfnlofhaaDoorEx07
namespace Go.Proofs.YtojofakfnlofhaaDoor
open Go.RowKit
set_option linter.unusedVariables false
set_option linter.unusedSimpArgs false
theorem sums_facts (s t : ByteArray) (ht : t.size ≤ 500) : ∃ A B C D : Nat, A < 65521 ∧ B < 65521 ∧ C < 65521 ∧ D < 65521 ∧ adS s.data.toList = B * 65536 + A ∧ adS t.data.toList = D * 65536 + C ∧
    adS (s ++ t).data.toList = (B + D + t.size * (A + 65520)) % 65521 * 65536 + (A + C + 65520) % 65521 ∧ adS (s ++ (⟨#[0]⟩ : ByteArray)).data.toList % 65536 = A := by
  refine ⟨_, _, _, _, adA_lt s.data.toList, adB_lt s.data.toList, adA_lt t.data.toList, adB_lt t.data.toList, rfl, rfl, ?_, ?_⟩
  · rw [append_list]
    unfold adS
    rw [adA_append, adB_append, size_list]
  · rw [append_list]
    unfold adS
    have h := adA_lt (s.data.toList ++ (⟨#[0]⟩ : ByteArray).data.toList)
    have h2 := adA_lt s.data.toList
    rw [adA_append] at h ⊢
    have e : adA (⟨#[0]⟩ : ByteArray).data.toList = 1 := by decide +kernel
    rw [e] at h ⊢
    omega
set_option maxHeartbeats 3200000 in
set_option maxRecDepth 20000 in
theorem pageSums_walk (a b s t : ByteArray) (w : World) (n m : Nat) (ha : a.size ≤ 140737488351232) (hb : b.size ≤ 140737488351232) (hc : ((a.size : Int) ≤ 500 ∧ n = a.size) ∨ ((500 : Int) < (a.size : Int) ∧ n = 500)) (hd : ((b.size : Int) ≤ 500 ∧ m = b.size) ∨ ((500 : Int) < (b.size : Int) ∧ m = 500))
    (HS : a.extract 0 n = s) (HT : b.extract 0 m = t) (hs : s.size ≤ 500) (ht : t.size = m) (hm : m ≤ 500)
    (A B C D X Y Z V : Nat) (hA : A < 65521) (hB : B < 65521) (hC : C < 65521) (hD : D < 65521)
    (FX : Hid (adS s.data.toList = X)) (FY : Hid (adS t.data.toList = Y)) (FZ : Hid (adS (s ++ t).data.toList = Z)) (FV : Hid (adS (s ++ (⟨#[0]⟩ : ByteArray)).data.toList = V))
    (hX : X < 4294967296) (hY : Y < 4294967296) (hZ : Z < 4294967296) (hV : V < 4294967296)
    (x1 : (X : Int) % 65536 = (A : Int)) (x2 : (X : Int) / 65536 = (B : Int)) (y1 : (Y : Int) % 65536 = (C : Int)) (y2 : (Y : Int) / 65536 = (D : Int))
    (z1 : (Z : Int) = ((B : Int) + (D : Int) + (m : Int) * ((A : Int) + 65520)) % 65521 * 65536 + ((A : Int) + (C : Int) + 65520) % 65521) (v1 : (V : Int) % 65536 = (A : Int))
    (p0 : 0 ≤ (m : Int) * ((A : Int) + 65520)) (p1 : (m : Int) * ((A : Int) + 65520) ≤ 70000000) :
    Calls Tryd.prog 7 #[.string a, .string b] w fun e w' => e = .returned (.bool true) ∧ Below w.heap.size w w' := by
  have F1 : Hid (adS (⟨#[]⟩ : ByteArray).data.toList = 1) := Lib.hid (by decide +kernel)
  have hst : ((s ++ t).size : Int) ≤ 1000 := by rw [ByteArray.size_append]; omega
  have hs1 : (s.size : Int) ≤ 500 := by omega
  have hv0 : (s ++ (⟨#[0]⟩ : ByteArray)).size ≤ 9223372036854775807 := by
    have : (⟨#[0]⟩ : ByteArray).size = 1 := rfl
    rw [ByteArray.size_append]
    omega
  have HV0 := Lib.hid hv0
  clear hv0
  have HZ1 := Lib.hid z1
  clear z1
  rcases hc with ⟨c1, rfl⟩ | ⟨c1, rfl⟩ <;> rcases hd with ⟨d1, rfl⟩ | ⟨d1, rfl⟩
  all_goals
    go_enter Tryd.func7, Tryd.ntmps7
    go_wp2_with fail
    refine (examples_any _).mono ?_
    rintro e w1 ⟨rfl, b1⟩
    have B1 := Lib.hid b1
    clear b1
    go_wp2_with fail
    refine (pgSum_any s _ (by omega) X FX).mono ?_
    rintro e w2 ⟨rfl, rfl⟩
    go_wp2_with fail
    refine (pgSum_any t _ (by omega) Y FY).mono ?_
    rintro e w2 ⟨rfl, rfl⟩
    go_wp2_with fail
    refine (pgSum_any (s ++ t) _ (by omega) Z FZ).mono ?_
    rintro e w2 ⟨rfl, rfl⟩
    go_wp2_with fail
    refine (pgSum_any (s ++ (⟨#[0]⟩ : ByteArray)) _ HV0.out V FV).mono ?_
    rintro e w2 ⟨rfl, rfl⟩
    have z1 := HZ1.out
    go_wp2_with fail
    refine (pgSum_any (⟨#[]⟩ : ByteArray) _ (by decide) 1 F1).mono ?_
    rintro e w2 ⟨rfl, rfl⟩
    go_wp2_with fail
    go_ret
    exact ⟨rfl, B1.out⟩
theorem pageSums_law (a0 a1 : ByteArray) (w : World) (z0 : a0.size ≤ 140737488351232) (z1 : a1.size ≤ 140737488351232) :
    Calls Tryd.prog 7 #[.string a0, .string a1] w fun e w' => e = .returned (.bool true) ∧ Below w.heap.size w w' := by
  obtain ⟨n, hn, hc⟩ : ∃ n : Nat, n ≤ 500 ∧ (((a0.size : Int) ≤ 500 ∧ n = a0.size) ∨ ((500 : Int) < (a0.size : Int) ∧ n = 500)) := by
    by_cases h : a0.size ≤ 500
    · exact ⟨a0.size, h, .inl ⟨by omega, rfl⟩⟩
    · exact ⟨500, by omega, .inr ⟨by omega, rfl⟩⟩
  obtain ⟨m, hm, hd⟩ : ∃ m : Nat, m ≤ 500 ∧ (((a1.size : Int) ≤ 500 ∧ m = a1.size) ∨ ((500 : Int) < (a1.size : Int) ∧ m = 500)) := by
    by_cases h : a1.size ≤ 500
    · exact ⟨a1.size, h, .inl ⟨by omega, rfl⟩⟩
    · exact ⟨500, by omega, .inr ⟨by omega, rfl⟩⟩
  obtain ⟨s, HS⟩ : ∃ s, a0.extract 0 n = s := ⟨_, rfl⟩
  obtain ⟨t, HT⟩ : ∃ t, a1.extract 0 m = t := ⟨_, rfl⟩
  have hs : s.size = n := by rw [← HS, ByteArray.size_extract]; omega
  have ht : t.size = m := by rw [← HT, ByteArray.size_extract]; omega
  obtain ⟨A, B, C, D, hA, hB, hC, hD, e1, e2, e3, e4⟩ := sums_facts s t (by omega)
  have lX := adS_lt s.data.toList
  have lY := adS_lt t.data.toList
  have lZ := adS_lt (s ++ t).data.toList
  have lV := adS_lt (s ++ (⟨#[0]⟩ : ByteArray)).data.toList
  obtain ⟨X, FX⟩ : ∃ X, adS s.data.toList = X := ⟨_, rfl⟩
  obtain ⟨Y, FY⟩ : ∃ X, adS t.data.toList = X := ⟨_, rfl⟩
  obtain ⟨Z, FZ⟩ : ∃ X, adS (s ++ t).data.toList = X := ⟨_, rfl⟩
  obtain ⟨V, FV⟩ : ∃ X, adS (s ++ (⟨#[0]⟩ : ByteArray)).data.toList = X := ⟨_, rfl⟩
  rw [FX] at e1 lX
  rw [FY] at e2 lY
  rw [FZ] at e3 lZ
  rw [FV] at e4 lV
  rw [ht] at e3
  have hp : m * (A + 65520) ≤ 500 * 131040 := Nat.mul_le_mul hm (by omega)
  obtain ⟨P, hP⟩ : ∃ P, m * (A + 65520) = P := ⟨_, rfl⟩
  have hPi : (m : Int) * ((A : Int) + 65520) = (P : Int) := by rw [← hP, Int.natCast_mul, Int.natCast_add]; rfl
  rw [hP] at e3 hp
  refine pageSums_walk a0 a1 s t w n m z0 z1 hc hd HS HT (by omega) ht hm A B C D X Y Z V hA hB hC hD (Lib.hid FX) (Lib.hid FY) (Lib.hid FZ) (Lib.hid FV) lX lY lZ lV (by omega) (by omega) (by omega) (by omega) ?_ (by omega) ?_ ?_
  all_goals
    rw [hPi]
    omega
end Go.Proofs.YtojofakfnlofhaaDoor
