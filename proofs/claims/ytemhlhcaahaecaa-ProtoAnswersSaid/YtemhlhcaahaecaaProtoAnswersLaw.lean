import Derived.Test.YtemhlhcaahaecaaReplyFacts
namespace Go.Proofs.Ytemhlhcaahaecaa
open Go.RowKit
set_option linter.unusedVariables false
set_option linter.unusedSimpArgs false
set_option maxRecDepth 20000 in
set_option maxHeartbeats 3200000 in
theorem protoAnswers_walk (id code : Int) (body b s u t : ByteArray) (e n c f g : Int) (ok : Bool) (w : World) (hs : body.size ≤ 140737488351232)
    (R : Hid (∀ w, Calls Try.prog 10 #[.int .i64 id, .int .i64 code, .string body] w fun e' w' => e' = .returned (.tuple #[.string s, .int .i64 e]) ∧ Below w.heap.size w w'))
    (T : Hid (ok = true → ∀ w, Calls Try.prog 12 #[.string s] w fun e' w' => e' = .returned (.tuple #[.int .i64 id, .int .i64 code, .string body, .int .i64 0]) ∧ Below w.heap.size w w'))
    (T2 : Hid (∀ w, Calls Try.prog 12 #[.string b] w fun e' w' => e' = .returned (.tuple #[.int .i64 n, .int .i64 c, .string t, .int .i64 f]) ∧ Below w.heap.size w w'))
    (R2 : Hid (∀ w, Calls Try.prog 10 #[.int .i64 n, .int .i64 c, .string t] w fun e' w' => e' = .returned (.tuple #[.string u, .int .i64 g]) ∧ Below w.heap.size w w'))
    (H1 : Hid ((ok = true ∧ e = 0 ∧ 0 ≤ id ∧ id < 4294967296 ∧ 0 ≤ code ∧ code ≤ 255 ∧ (body.size : Int) ≤ 100) ∨ (ok = false ∧ e = 1 ∧ (id < 0 ∨ (0 ≤ id ∧ 4294967296 ≤ id) ∨ (0 ≤ id ∧ id < 4294967296 ∧ code < 0) ∨ (0 ≤ id ∧ id < 4294967296 ∧ 0 ≤ code ∧ 255 < code) ∨ (0 ≤ id ∧ id < 4294967296 ∧ 0 ≤ code ∧ code ≤ 255 ∧ 100 < (body.size : Int))))))
    (H2 : Hid (f = 2 ∨ (f = 0 ∧ g = 0 ∧ u = b))) :
    Calls Try.prog 6 #[.int .i64 id, .int .i64 code, .string body, .string b] w fun e w' => e = .returned (.bool true) ∧ Below w.heap.size w w' := by
  rcases H1.out with ⟨rfl, rfl, i0, i1, i2, i3, i4⟩ | ⟨rfl, rfl, hc⟩
  · have T1 := Lib.hid (T.out rfl)
    clear T H1
    go_enter Try.func6, Try.ntmps6
    try simp only [List.append_eq, List.cons_append, List.nil_append]
    go_wp2_with fail
    refine (examples_any _).mono ?_
    rintro e w1 ⟨rfl, b1⟩
    go_wp2_with fail
    refine (R.out _).mono ?_
    rintro e w2 ⟨rfl, b2⟩
    go_wp2_with fail
    refine (T1.out _).mono ?_
    rintro e w3 ⟨rfl, b3⟩
    go_wp2_with fail
    refine (T2.out _).mono ?_
    rintro e w4 ⟨rfl, b4⟩
    go_wp2_with fail
    refine (R2.out _).mono ?_
    rintro e w5 ⟨rfl, b5⟩
    have B := Lib.hid (chain (chain (chain (chain b1 b2) b3) b4) b5)
    clear b1 b2 b3 b4 b5 T1 T2 R R2
    rcases H2.out with rfl | ⟨rfl, rfl, rfl⟩
    all_goals
      go_wp2_with fail
      go_ret
      exact ⟨rfl, B.out⟩
  · clear T H1
    rcases hc with h0 | ⟨h0, h1⟩ | ⟨h0, h1, h2⟩ | ⟨h0, h1, h2, h3⟩ | ⟨h0, h1, h2, h3, h4⟩
    all_goals
      go_enter Try.func6, Try.ntmps6
      try simp only [List.append_eq, List.cons_append, List.nil_append]
      go_wp2_with fail
      refine (examples_any _).mono ?_
      rintro e w1 ⟨rfl, b1⟩
      go_wp2_with fail
      refine (R.out _).mono ?_
      rintro e w2 ⟨rfl, b2⟩
      go_wp2_with fail
      refine (T2.out _).mono ?_
      rintro e w4 ⟨rfl, b4⟩
      go_wp2_with fail
      refine (R2.out _).mono ?_
      rintro e w5 ⟨rfl, b5⟩
      have B := Lib.hid (chain (chain (chain b1 b2) b4) b5)
      clear b1 b2 b4 b5 T2 R R2
      rcases H2.out with rfl | ⟨rfl, rfl, rfl⟩
      all_goals
        go_wp2_with fail
        go_ret
        exact ⟨rfl, B.out⟩
theorem protoAnswers_law (a0 a1 : Int) (a2 a3 : ByteArray) (w : World) (_ : (Lit.int .i64 a0).wf = true) (_ : (Lit.int .i64 a1).wf = true) (z2 : a2.size ≤ 140737488351232) (z3 : a3.size ≤ 140737488351232) :
    Calls Try.prog 6 #[.int .i64 a0, .int .i64 a1, .string a2, .string a3] w fun e w' => e = .returned (.bool true) ∧ Below w.heap.size w w' := by
  have H1 : ((replyOk a0 a1 a2 = true ∧ okP (replyOk a0 a1 a2) 1 = 0 ∧ 0 ≤ a0 ∧ a0 < 4294967296 ∧ 0 ≤ a1 ∧ a1 ≤ 255 ∧ (a2.size : Int) ≤ 100) ∨ (replyOk a0 a1 a2 = false ∧ okP (replyOk a0 a1 a2) 1 = 1 ∧ (a0 < 0 ∨ (0 ≤ a0 ∧ 4294967296 ≤ a0) ∨ (0 ≤ a0 ∧ a0 < 4294967296 ∧ a1 < 0) ∨ (0 ≤ a0 ∧ a0 < 4294967296 ∧ 0 ≤ a1 ∧ 255 < a1) ∨ (0 ≤ a0 ∧ a0 < 4294967296 ∧ 0 ≤ a1 ∧ a1 ≤ 255 ∧ 100 < (a2.size : Int))))) := by
    cases h : replyOk a0 a1 a2
    · exact .inr ⟨rfl, rfl, reply_cases h⟩
    · have := replyOk_in h
      exact .inl ⟨rfl, rfl, by omega, by omega, by omega, by omega, by omega⟩
  have T : replyOk a0 a1 a2 = true → ∀ w, Calls Try.prog 12 #[.string (replyP a0 a1 a2)] w fun e' w' => e' = .returned (.tuple #[.int .i64 a0, .int .i64 a1, .string a2, .int .i64 0]) ∧ Below w.heap.size w w' := fun h w => by
    obtain ⟨e0, e1, e2⟩ := reply_flds h
    have hz := replyB_size h
    have := takeReply_yes _ w (by omega) (reply_back h)
    rw [e0, e1, e2] at this
    rw [replyP_yes h]
    exact this
  cases hb : trOk a3
  · exact protoAnswers_walk a0 a1 a2 a3 _ _ _ _ _ _ _ _ _ w z2 (Lib.hid fun w => reply_any a0 a1 a2 w) (Lib.hid T) (Lib.hid fun w => takeReply_no a3 w (by omega) hb) (Lib.hid fun w => reply_any _ _ _ w) (Lib.hid H1) (Lib.hid (.inl rfl))
  · have h' := hb
    unfold trOk at h'
    rw [Bool.and_eq_true] at h'
    refine protoAnswers_walk a0 a1 a2 a3 _ _ _ _ _ _ _ _ _ w z2 (Lib.hid fun w => reply_any a0 a1 a2 w) (Lib.hid T) (Lib.hid fun w => takeReply_yes a3 w (by omega) hb) (Lib.hid fun w => reply_any _ _ _ w) (Lib.hid H1) (Lib.hid (.inr ⟨rfl, ?_, ?_⟩))
    · rw [h'.1]; rfl
    · rw [replyP_yes h'.1]
      exact list_inj.1 (by simpa using h'.2)
end Go.Proofs.Ytemhlhcaahaecaa
