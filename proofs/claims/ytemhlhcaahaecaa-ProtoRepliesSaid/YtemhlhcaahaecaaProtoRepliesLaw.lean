import Derived.Test.YtemhlhcaahaecaaRef21T
namespace Go.Proofs.Ytemhlhcaahaecaa
open Go.RowKit
set_option linter.unusedVariables false
set_option linter.unusedSimpArgs false
set_option maxRecDepth 20000 in
set_option maxHeartbeats 3200000 in
theorem protoReplies_walk (id code : Int) (body b s t : ByteArray) (e n c f : Int) (ok is : Bool) (w : World)
    (R : Hid (∀ w, Calls Try.prog 10 #[.int .i64 id, .int .i64 code, .string body] w fun e' w' => e' = .returned (.tuple #[.string s, .int .i64 e]) ∧ Below w.heap.size w w'))
    (R2 : Hid (∀ w, Calls Try.prog 11 #[.int .i64 id, .int .i64 code, .string body] w fun e' w' => e' = .returned (.tuple #[.string s, .bool ok]) ∧ Below w.heap.size w w'))
    (T : Hid (∀ w, Calls Try.prog 12 #[.string b] w fun e' w' => e' = .returned (.tuple #[.int .i64 n, .int .i64 c, .string t, .int .i64 f]) ∧ Below w.heap.size w w'))
    (T2 : Hid (∀ w, Calls Try.prog 13 #[.string b] w fun e' w' => e' = .returned (.tuple #[.int .i64 n, .int .i64 c, .string t, .bool is]) ∧ Below w.heap.size w w'))
    (he : (ok = true ∧ e = 0) ∨ (ok = false ∧ e = 1)) (hf : (is = true ∧ f = 0) ∨ (is = false ∧ f = 2)) :
    Calls Try.prog 3 #[.int .i64 id, .int .i64 code, .string body, .string b] w fun e w' => e = .returned (.bool true) ∧ Below w.heap.size w w' := by
  rcases he with ⟨rfl, rfl⟩ | ⟨rfl, rfl⟩
  all_goals rcases hf with ⟨rfl, rfl⟩ | ⟨rfl, rfl⟩
  all_goals
    go_enter Try.func3, Try.ntmps3
    try simp only [List.append_eq, List.cons_append, List.nil_append]
    go_wp2_with fail
    refine (examples_any _).mono ?_
    rintro e w1 ⟨rfl, b1⟩
    go_wp2_with fail
    refine (R.out _).mono ?_
    rintro e w2 ⟨rfl, b2⟩
    go_wp2_with fail
    refine (R2.out _).mono ?_
    rintro e w3 ⟨rfl, b3⟩
    go_wp2_with fail
    refine (T.out _).mono ?_
    rintro e w4 ⟨rfl, b4⟩
    go_wp2_with fail
    refine (T2.out _).mono ?_
    rintro e w5 ⟨rfl, b5⟩
    have B := Lib.hid (chain (chain (chain (chain b1 b2) b3) b4) b5)
    clear b1 b2 b3 b4 b5 T T2 R R2
    go_wp2_with fail
    go_ret
    exact ⟨rfl, B.out⟩
theorem protoReplies_law (a0 a1 : Int) (a2 a3 : ByteArray) (w : World) (_ : (Lit.int .i64 a0).wf = true) (_ : (Lit.int .i64 a1).wf = true) (z2 : a2.size ≤ 140737488351232) (z3 : a3.size ≤ 140737488351232) :
    Calls Try.prog 3 #[.int .i64 a0, .int .i64 a1, .string a2, .string a3] w fun e w' => e = .returned (.bool true) ∧ Below w.heap.size w w' := by
  have H1 : (replyOk a0 a1 a2 = true ∧ okP (replyOk a0 a1 a2) 1 = 0) ∨ (replyOk a0 a1 a2 = false ∧ okP (replyOk a0 a1 a2) 1 = 1) := by
    cases replyOk a0 a1 a2
    · exact .inr ⟨rfl, rfl⟩
    · exact .inl ⟨rfl, rfl⟩
  cases hb : trOk a3
  · exact protoReplies_walk a0 a1 a2 a3 _ _ _ _ _ _ _ _ w (Lib.hid fun w => reply_any a0 a1 a2 w) (Lib.hid fun w => refReply_any a0 a1 a2 w) (Lib.hid fun w => takeReply_no a3 w (by omega) hb) (Lib.hid fun w => refTakeReply_no a3 w (by omega) hb) H1 (.inr ⟨rfl, rfl⟩)
  · exact protoReplies_walk a0 a1 a2 a3 _ _ _ _ _ _ _ _ w (Lib.hid fun w => reply_any a0 a1 a2 w) (Lib.hid fun w => refReply_any a0 a1 a2 w) (Lib.hid fun w => takeReply_yes a3 w (by omega) hb) (Lib.hid fun w => refTakeReply_yes a3 w (by omega) hb) H1 (.inl ⟨rfl, rfl⟩)
end Go.Proofs.Ytemhlhcaahaecaa
