/-
  A stream of frames.
-/
import Derived.Test.YtnbljpdfmomjjaaEx20
import Derived.Test.YtnbljpdfmomjjaaRdr
import Derived.Outline
namespace Go.Proofs.Ytnbljpdfmomjjaa
open Go.RowKit
set_option linter.unusedVariables false

/-- A text in its frame, as bytes; a stream of them. -/
def lsB (t : ByteArray) : List UInt8 := M.be 2 t.size ++ t.data.toList
def stream (D : List ByteArray) : List UInt8 := D.flatMap lsB
theorem stream_cons (t : ByteArray) (D : List ByteArray) : stream (t :: D) = M.be 2 t.size ++ (t.data.toList ++ stream D) := by
  unfold stream lsB; rw [List.flatMap_cons, List.append_assoc]
theorem stream_snoc (D : List ByteArray) (t : ByteArray) : Str (stream D) ++ frB t = Str (stream (D ++ [t])) := by
  apply eq_of_data
  unfold stream frB
  rw [append_list, append_list, Str_list, Str_list, Str_list, List.flatMap_append]
  simp [lsB]
theorem stream_length (D : List ByteArray) (h : ∀ t ∈ D, t.size ≤ 200) : (stream D).length ≤ 202 * D.length := by
  induction D with
  | nil => simp [stream]
  | cons t D ih =>
    have h1 := h t (by simp)
    have h2 := ih (fun u hu => h u (by simp [hu]))
    rw [stream_cons, List.length_append, List.length_append, M.be_length, List.length_cons]
    simp
    omega
theorem stream_head (l r : List UInt8) (D : List ByteArray) (h : l ++ r = stream D) (hl : 2 ≤ l.length) : ∃ t D', D = t :: D' ∧ l.take 2 = M.be 2 t.size := by
  cases D with
  | nil =>
    have := congrArg List.length h
    rw [List.length_append] at this
    have e : (stream []).length = 0 := rfl
    omega
  | cons t D' =>
    refine ⟨t, D', rfl, ?_⟩
    have h2 := congrArg (List.take 2) h
    rw [stream_cons, fr_take, List.take_append_of_le_length hl] at h2
    exact h2
theorem stream_tell (l r : List UInt8) (t : ByteArray) (D : List ByteArray) (h : l ++ r = stream (t :: D)) (hl : 2 + t.size ≤ l.length) : Str ((l.drop 2).take t.size) = t ∧ l.drop (2 + t.size) ++ r = stream D := by
  rw [stream_cons] at h
  constructor
  · have h2 : ((l ++ r).drop 2).take t.size = ((M.be 2 t.size ++ (t.data.toList ++ stream D)).drop 2).take t.size := by rw [h]
    rw [fr_drop, List.drop_append_of_le_length (by omega), List.take_append_of_le_length (by simp; omega), List.take_append_of_le_length (by simp), List.take_of_length_le (l := t.data.toList) (by simp)] at h2
    rw [h2, Str_of]
  · have h2 := congrArg (List.drop (2 + t.size)) h
    rw [fr_rest, List.drop_append_of_le_length hl] at h2
    exact h2
/-- At most 200 bytes of a text. -/
def cut200 (s : ByteArray) : ByteArray := if s.size ≤ 200 then s else s.extract 0 200
theorem cut200_size (s : ByteArray) : (cut200 s).size ≤ 200 := by
  unfold cut200; split
  · assumption
  · rw [ByteArray.size_extract]; omega
def texts (ss : List ByteArray) (m : Nat) : List ByteArray := (List.range m).map fun i => cut200 (ss.getD i ByteArray.empty)
theorem texts_length (ss : List ByteArray) (m : Nat) : (texts ss m).length = m := by simp [texts]
theorem texts_succ (ss : List ByteArray) (m : Nat) : texts ss (m + 1) = texts ss m ++ [cut200 (ss.getD m ByteArray.empty)] := by
  unfold texts; rw [List.range_succ, List.map_append]; rfl
theorem texts_le (ss : List ByteArray) (m : Nat) : ∀ t ∈ texts ss m, t.size ≤ 200 := by
  intro t ht
  obtain ⟨i, _, rfl⟩ := List.mem_map.1 ht
  exact cut200_size _
theorem info_str : (Try.prog.info? 9).map (fun i => (i.zero, i.size, i.bytes)) = some (some (.string ByteArray.empty), 1, 16) := by kernel_rfl
end Go.Proofs.Ytnbljpdfmomjjaa
