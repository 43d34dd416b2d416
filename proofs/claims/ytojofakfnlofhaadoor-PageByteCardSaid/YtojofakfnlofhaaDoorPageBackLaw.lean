import Derived.Test.YtojofakfnlofhaaDoorEx07
namespace Go.Proofs.YtojofakfnlofhaaDoor
open Go.RowKit
set_option linter.unusedVariables false
set_option linter.unusedSimpArgs false
set_option maxHeartbeats 3200000 in
set_option maxRecDepth 20000 in
theorem pageBack_walk (k : Int) (t b s t2 u : ByteArray) (e k2 f g : Int) (w : World) (hs : e = 0 → (s.size : Int) = 256) (ht : t.size ≤ 140737488351232)
    (S1 : Hid (∀ w, Calls Tryd.prog 9 #[.int .i64 k, .string t] w fun e' w' => e' = .returned (.tuple #[.string s, .int .i64 e]) ∧ Below w.heap.size w w'))
    (O1 : Hid (e = 0 → ∀ w, Calls Tryd.prog 11 #[.string s] w fun e' w' => e' = .returned (.tuple #[.int .i64 k, .string t, .int .i64 0]) ∧ Below w.heap.size w w'))
    (O2 : Hid (∀ w, Calls Tryd.prog 11 #[.string b] w fun e' w' => e' = .returned (.tuple #[.int .i64 k2, .string t2, .int .i64 f]) ∧ Below w.heap.size w w'))
    (S2 : Hid (∀ w, Calls Tryd.prog 9 #[.int .i64 k2, .string t2] w fun e' w' => e' = .returned (.tuple #[.string u, .int .i64 g]) ∧ Below w.heap.size w w'))
    (H1 : Hid ((e = 0 ∧ 1 ≤ k ∧ k ≤ 15 ∧ (t.size : Int) ≤ 240) ∨ (e = 1 ∧ (k < 1 ∨ (1 ≤ k ∧ 15 < k) ∨ (1 ≤ k ∧ k ≤ 15 ∧ 240 < (t.size : Int))))))
    (H2 : Hid (f = 2 ∨ f = 15 ∨ (f = 0 ∧ g = 0 ∧ u = b))) :
    Calls Tryd.prog 5 #[.int .i64 k, .string t, .string b] w fun e w' => e = .returned (.bool true) ∧ Below w.heap.size w w' := by
  rcases H1.out with ⟨rfl, i0, i1, i2⟩ | ⟨rfl, hc⟩
  · have hsz := hs rfl
    have O1' := Lib.hid (O1.out rfl)
    clear O1 H1 hs
    go_enter Tryd.func5, Tryd.ntmps5
    go_wp2_with fail
    refine (examples_any _).mono ?_
    rintro e w1 ⟨rfl, b1⟩
    go_wp2_with fail
    refine (S1.out _).mono ?_
    rintro e w2 ⟨rfl, b2⟩
    go_wp2_with fail
    refine (O1'.out _).mono ?_
    rintro e w3 ⟨rfl, b3⟩
    go_wp2_with fail
    refine (O2.out _).mono ?_
    rintro e w4 ⟨rfl, b4⟩
    go_wp2_with fail
    refine (S2.out _).mono ?_
    rintro e w5 ⟨rfl, b5⟩
    have B := Lib.hid (chain (chain (chain (chain b1 b2) b3) b4) b5)
    clear b1 b2 b3 b4 b5 S1 O1' O2 S2
    rcases H2.out with rfl | rfl | ⟨rfl, rfl, rfl⟩
    all_goals
      clear H2
      go_wp2_with fail
      go_ret
      first | exact ⟨rfl, B.out⟩ | exact ⟨ret_true (by simp; omega), B.out⟩
  · clear O1 H1 hs
    rcases hc with h0 | ⟨h0, h1⟩ | ⟨h0, h1, h2⟩
    all_goals
      go_enter Tryd.func5, Tryd.ntmps5
      go_wp2_with fail
      refine (examples_any _).mono ?_
      rintro e w1 ⟨rfl, b1⟩
      go_wp2_with fail
      refine (S1.out _).mono ?_
      rintro e w2 ⟨rfl, b2⟩
      go_wp2_with fail
      refine (O2.out _).mono ?_
      rintro e w4 ⟨rfl, b4⟩
      go_wp2_with fail
      refine (S2.out _).mono ?_
      rintro e w5 ⟨rfl, b5⟩
      have B := Lib.hid (chain (chain (chain b1 b2) b4) b5)
      clear b1 b2 b4 b5 S1 O2 S2
      rcases H2.out with rfl | rfl | ⟨rfl, rfl, rfl⟩
      all_goals
        clear H2
        go_wp2_with fail
        go_ret
        first | exact ⟨rfl, B.out⟩ | exact ⟨ret_true (by simp; omega), B.out⟩
theorem sealS_back (k : Int) (t : ByteArray) (h : sealB k t = true) (w : World) : Calls Tryd.prog 11 #[.string (sealS k t)] w fun e' w' => e' = .returned (.tuple #[.int .i64 k, .string t, .int .i64 0]) ∧ Below w.heap.size w w' := by
  obtain ⟨h1, h2, h3⟩ := (sealB_iff k t).1 h
  have := open_any (sealS k t) w
  have e : (sealS k t).data.toList = pgL k.toNat t.data.toList := by unfold sealS; rw [if_pos h, Str_list]
  obtain ⟨a1, a2, a3⟩ := pg_back k.toNat t.data.toList (by omega) (by omega) (by rw [size_list]; exact h3)
  unfold opK opT at this
  rw [e, a1, a2, a3, if_pos rfl, if_pos rfl, Str_of, Int.toNat_of_nonneg (by omega)] at this
  exact this
theorem open_again (b : ByteArray) : (opE b.data.toList = 2 ∨ opE b.data.toList = 15 ∨ opE b.data.toList = 0) ∧ (opE b.data.toList = 0 → sealE (opK b.data.toList : Int) (Str (opT b.data.toList)) = 0 ∧ sealS (opK b.data.toList : Int) (Str (opT b.data.toList)) = b) := by
  constructor
  · unfold opE
    split
    · split
      · split
        · exact .inr (.inr rfl)
        · exact .inl rfl
      · exact .inr (.inl rfl)
    · exact .inl rfl
  · intro h
    obtain ⟨a1, a2, a3, a4⟩ := pg_again _ h
    have e1 : opK b.data.toList = opKind b.data.toList := by unfold opK; rw [if_pos h]
    have e2 : opT b.data.toList = opText b.data.toList := by unfold opT; rw [if_pos h]
    have hs : sealB (opKind b.data.toList : Int) (Str (opText b.data.toList)) = true := (sealB_iff _ _).2 ⟨by omega, by omega, by rw [Str_size]; exact a4⟩
    rw [e1, e2]
    unfold sealE sealS
    rw [if_pos hs, if_pos hs]
    refine ⟨rfl, ?_⟩
    apply eq_of_data
    rw [Str_list, Str_list, Int.toNat_natCast, a1]
theorem pageBack_law (a0 : Int) (a1 a2 : ByteArray) (w : World) (_ : (Lit.int .i64 a0).wf = true) (z1 : a1.size ≤ 140737488351232) (z2 : a2.size ≤ 140737488351232) :
    Calls Tryd.prog 5 #[.int .i64 a0, .string a1, .string a2] w fun e w' => e = .returned (.bool true) ∧ Below w.heap.size w w' := by
  have H2 := open_again a2
  refine pageBack_walk a0 a1 a2 (sealS a0 a1) _ _ (sealE a0 a1) _ _ _ w ?_ z1 (Lib.hid fun w => seal_any a0 a1 w) (Lib.hid ?_) (Lib.hid fun w => open_any a2 w) (Lib.hid fun w => seal_any _ _ w) (Lib.hid ?_) (Lib.hid ?_)
  · intro h
    cases hb : sealB a0 a1
    · unfold sealE at h; rw [hb] at h; simp at h
    · unfold sealS
      rw [if_pos hb, Str_size, pgL_length _ _ (by rw [size_list]; exact ((sealB_iff _ _).1 hb).2.2)]
      rfl
  · intro h w
    cases hb : sealB a0 a1
    · unfold sealE at h; rw [hb] at h; simp at h
    · exact sealS_back a0 a1 hb w
  · cases hb : sealB a0 a1
    · refine .inr ⟨by unfold sealE; rw [hb]; rfl, ?_⟩
      have : ¬ (1 ≤ a0 ∧ a0 ≤ 15 ∧ a1.size ≤ 240) := fun h => by
        rw [(sealB_iff _ _).2 h] at hb; cases hb
      omega
    · have := (sealB_iff _ _).1 hb
      exact .inl ⟨by unfold sealE; rw [hb]; rfl, by omega, by omega, by omega⟩
  · rcases H2.1 with h | h | h
    · exact .inl (by rw [h]; rfl)
    · exact .inr (.inl (by rw [h]; rfl))
    · exact .inr (.inr ⟨by rw [h]; rfl, (H2.2 h).1, (H2.2 h).2⟩)
end Go.Proofs.YtojofakfnlofhaaDoor
