/-
  Answers: what is written is read as it was; what is read is written as it stood.
-/
import Derived.Test.YtemhlhcaahaecaaProtoEx
namespace Go.Proofs.Ytemhlhcaahaecaa
open Go.RowKit
set_option linter.unusedVariables false
theorem replyP_yes {id code : Int} {body : ByteArray} (h : replyOk id code body = true) : replyP id code body = replyB id code body := by unfold replyP; rw [h, if_pos rfl]
theorem takeReply_yes (b : ByteArray) (w : World) (hs : b.size ≤ 9223372036854775807) (h : trOk b = true) :
    Calls Try.prog 12 #[.string b] w fun e w' => e = .returned (.tuple #[.int .i64 (trI b), .int .i64 (trC b), .string (trB b), .int .i64 0]) ∧ Below w.heap.size w w' := by
  have h' := h
  unfold trOk at h'
  rw [Bool.and_eq_true] at h'
  have hz : (takeR (takeR (takeR b 1) 4) 1).size ≤ 9223372036854775807 := Nat.le_trans (takeR_size2 _ _) (Nat.le_trans (takeR_size2 _ _) (Nat.le_trans (takeR_size2 _ _) hs))
  have := takeReply_walk b (takeR b 1) (takeR (takeR b 1) 4) (takeR (takeR (takeR b 1) 4) 1) (ttR (takeR (takeR (takeR b 1) 4) 1)) (replyB (trI b) (trC b) (trB b)) (trB b) (takeN b 1) (trI b) (trC b) true true w hz
    (Lib.hid rfl) (Lib.hid rfl) (Lib.hid rfl) (Lib.hid rfl) (Lib.hid rfl) (Lib.hid rfl) (Lib.hid rfl) (Lib.hid rfl) (Lib.hid h'.1) (Lib.hid (replyP_yes h'.1)) h'.2
  simpa only [Bool.and_self, if_true] using this
theorem takeReply_no (b : ByteArray) (w : World) (hs : b.size ≤ 9223372036854775807) (h : trOk b = false) :
    Calls Try.prog 12 #[.string b] w fun e w' => e = .returned (.tuple #[.int .i64 0, .int .i64 0, .string ⟨#[]⟩, .int .i64 2]) ∧ Below w.heap.size w w' := by
  have hz : (takeR (takeR (takeR b 1) 4) 1).size ≤ 9223372036854775807 := Nat.le_trans (takeR_size2 _ _) (Nat.le_trans (takeR_size2 _ _) (Nat.le_trans (takeR_size2 _ _) hs))
  have := takeReply_walk b (takeR b 1) (takeR (takeR b 1) 4) (takeR (takeR (takeR b 1) 4) 1) (ttR (takeR (takeR (takeR b 1) 4) 1)) (replyP (trI b) (trC b) (trB b)) (trB b) (takeN b 1) (trI b) (trC b) (replyOk (trI b) (trC b) (trB b)) _ w hz
    (Lib.hid rfl) (Lib.hid rfl) (Lib.hid rfl) (Lib.hid rfl) (Lib.hid rfl) (Lib.hid rfl) (Lib.hid rfl) (Lib.hid rfl) (Lib.hid rfl) (Lib.hid rfl) rfl
  have hk : (replyOk (trI b) (trC b) (trB b) && ((replyP (trI b) (trC b) (trB b)).toList == b.toList)) = false := by
    cases h1 : replyOk (trI b) (trC b) (trB b)
    · rfl
    · rw [replyP_yes h1]
      unfold trOk at h
      rw [h1] at h
      exact h
  rw [hk] at this
  simpa only [Bool.false_eq_true, if_false] using this
theorem putOk_of {n k : Int} (h0 : 0 ≤ n) (k1 : 1 ≤ k) (k8 : k ≤ 8) (h : n.toNat < 256 ^ k.toNat) : putOk n k = true := by
  obtain ⟨m, rfl⟩ := Int.eq_ofNat_of_zero_le h0
  exact (putOk_nat m k).2 ⟨k1, k8, by simpa using h⟩
theorem replyOk_in {id code : Int} {body : ByteArray} (h : replyOk id code body = true) : 0 ≤ id ∧ id ≤ 4294967295 ∧ 0 ≤ code ∧ code ≤ 255 ∧ body.size ≤ 100 := by
  unfold replyOk at h
  simp only [Bool.and_eq_true, decide_eq_true_eq, askOk_iff] at h
  omega
theorem reply_flds {id code : Int} {body : ByteArray} (h : replyOk id code body = true) : trI (replyB id code body) = id ∧ trC (replyB id code body) = code ∧ trB (replyB id code body) = body := by
  obtain ⟨a0, a1, a2, a3, a4⟩ := replyOk_in h
  have p0 : putOk 1 1 = true := by decide
  have e0 : (⟨#[1]⟩ : ByteArray) = Str (putL 1 1) := by decide +kernel
  have p1 : putOk id 4 = true := putOk_of a0 (by decide) (by decide) (by show _ < 4294967296; omega)
  have p2 : putOk code 1 = true := putOk_of a2 (by decide) (by decide) (by show _ < 256; omega)
  have q0 := fun rest => pt_n (n := 1) (k := 1) rest (by decide) p0
  have q1 := fun rest => pt_n (n := id) (k := 4) rest a0 p1
  have q2 := fun rest => pt_n (n := code) (k := 1) rest a2 p2
  have e : replyB id code body = Str (putL 1 1) ++ (Str (putL id 4) ++ (Str (putL code 1) ++ (textL body ++ ⟨#[]⟩))) := by
    unfold replyB; rw [e0, append_empty]; simp only [ByteArray.append_assoc]
  unfold trI trC trB
  rw [e, (q0 _).2, (q1 _).2, (q2 _).2]
  exact ⟨(q1 _).1, (q2 _).1, (tt_text body ⟨#[]⟩ (by omega)).1⟩
theorem reply_back {id code : Int} {body : ByteArray} (h : replyOk id code body = true) : trOk (replyB id code body) = true := by
  obtain ⟨e0, e1, e2⟩ := reply_flds h
  unfold trOk
  rw [e0, e1, e2, h]
  simp
theorem replyB_size {id code : Int} {body : ByteArray} (h : replyOk id code body = true) : (replyB id code body).size ≤ 300 := by
  have := putL_size id 4 (by decide)
  have := putL_size code 1 (by decide)
  have := textL_size2 body
  have : (⟨#[1]⟩ : ByteArray).size = 1 := by decide
  unfold replyB
  simp only [ByteArray.size_append]
  omega
theorem reply_cases {id code : Int} {body : ByteArray} (h : replyOk id code body = false) : id < 0 ∨ (0 ≤ id ∧ 4294967296 ≤ id) ∨ (0 ≤ id ∧ id < 4294967296 ∧ code < 0) ∨ (0 ≤ id ∧ id < 4294967296 ∧ 0 ≤ code ∧ 255 < code) ∨ (0 ≤ id ∧ id < 4294967296 ∧ 0 ≤ code ∧ code ≤ 255 ∧ 100 < (body.size : Int)) := by
  have h' : ¬ (0 ≤ id ∧ id ≤ 4294967295 ∧ 0 ≤ code ∧ code ≤ 255 ∧ body.size ≤ 100) := by
    rintro ⟨a0, a1, a2, a3, a4⟩
    have : replyOk id code body = true := by
      unfold replyOk
      simp only [Bool.and_eq_true, decide_eq_true_eq, askOk_iff]
      omega
    rw [this] at h; cases h
  omega
end Go.Proofs.Ytemhlhcaahaecaa
