/-
  Sectors in one row of bytes: one is read, written, loaded and stored whole.
-/
import Derived.Test.YtbjmbndeaobbeaaDoorByRow
import Derived.Test.YtbjmbndeaobbeaaDoorFrm
namespace Go.Proofs.YtbjmbndeaobbeaaDoor
open Go.RowKit
set_option linter.unusedVariables false
set_option linter.unusedSimpArgs false
theorem flat_len {S : List (List UInt8)} (h : ∀ s ∈ S, s.length = 256) : S.flatten.length = 256 * S.length := by
  induction S with
  | nil => rfl
  | cons a S ih =>
    rw [List.flatten_cons, List.length_append, h a (List.mem_cons_self ..), ih fun s hs => h s (List.mem_cons_of_mem _ hs), List.length_cons]
    omega
theorem flat_drop {S : List (List UInt8)} (h : ∀ s ∈ S, s.length = 256) (i : Nat) : S.flatten.drop (256 * i) = (S.drop i).flatten := by
  induction S generalizing i with
  | nil => simp
  | cons a S ih =>
    cases i with
    | zero => rfl
    | succ i =>
      have ha := h a (List.mem_cons_self ..)
      rw [List.flatten_cons, List.drop_append, List.drop_of_length_le (by omega), List.nil_append, ha, List.drop_succ_cons, ← ih (fun s hs => h s (List.mem_cons_of_mem _ hs)) i, show 256 * (i + 1) - 256 = 256 * i by omega]
theorem flat_take {S : List (List UInt8)} (h : ∀ s ∈ S, s.length = 256) (i : Nat) : S.flatten.take (256 * i) = (S.take i).flatten := by
  induction S generalizing i with
  | nil => simp
  | cons a S ih =>
    cases i with
    | zero => rfl
    | succ i =>
      have ha := h a (List.mem_cons_self ..)
      rw [List.flatten_cons, List.take_append, List.take_of_length_le (by omega), ha, List.take_succ_cons, List.flatten_cons, ← ih (fun s hs => h s (List.mem_cons_of_mem _ hs)) i, show 256 * (i + 1) - 256 = 256 * i by omega]
theorem flat_get {S : List (List UInt8)} (h : ∀ s ∈ S, s.length = 256) (i : Nat) (hi : i < S.length) : (S.flatten.drop (256 * i)).take 256 = S[i] := by
  rw [flat_drop h, List.drop_eq_getElem_cons hi, List.flatten_cons]
  have ha := h S[i] (List.getElem_mem hi)
  rw [List.take_append_of_le_length (by omega), List.take_of_length_le (by omega)]
theorem flat_set {S : List (List UInt8)} (h : ∀ s ∈ S, s.length = 256) (i : Nat) (hi : i < S.length) (m : List UInt8) : S.flatten.take (256 * i) ++ m ++ S.flatten.drop (256 * i + 256) = (S.set i m).flatten := by
  rw [show 256 * i + 256 = 256 * (i + 1) by omega, flat_take h, flat_drop h, List.set_eq_take_append_cons_drop, if_pos hi]
  simp
theorem By_at (l : List UInt8) (j : Nat) : (By l)[j]? = l[j]?.map vb := by simp [By]
theorem By_one (l : List UInt8) : ∀ v ∈ (By l).toList, v.oneCell' = true := by
  intro v hv
  simp only [By, List.toList_toArray, List.mem_map] at hv
  obtain ⟨b, _, rfl⟩ := hv
  rfl
theorem Byt.at {T : TypeId} {w : World} {g : Nat} {l : List UInt8} (h : Byt T w g l) (j : Nat) : w.cell? ⟨g, j, none⟩ = l[j]?.map vb := by
  rw [cell_of_row w g j _ T _ h, By_at]
theorem Byt.conv_at {T : TypeId} {w : World} {g : Nat} {l : List UInt8} (h : Byt T w g l) (off n cap : Nat) (hn : off + n ≤ l.length) (m : List UInt8) (hm : (l.drop off).take n = m) :
    (convert 85 9 (.slice (some ⟨g, off, none⟩) n cap)).run Tryd.prog w = .ok (.string (Str m)) w := by
  have hl : m.length = n := by rw [← hm, List.length_take, List.length_drop]; omega
  have := run_convert_bytes_back (P := Tryd.prog) w 85 9 5 ⟨g, off, none⟩ cap m Tryd.underlying85 Tryd.underlying5 Tryd.underlying9 (fun j hj => by
    rw [addr_add, h.at]
    have e : l[off + j]? = some m[j] := by
      rw [← List.getElem?_drop, ← List.getElem?_eq_getElem hj, ← hm, List.getElem?_take, if_pos (by omega)]
    rw [e]; rfl)
  rwa [hl] at this
theorem Byt.load_at {T : TypeId} {w : World} {g : Nat} {l : List UInt8} (h : Byt T w g l) (off : Nat) (m : List UInt8) (hm : (l.drop off).take 256 = m) (hl : m.length = 256) :
    (loadVar 66 ⟨g, off, none⟩).run Tryd.prog w = .ok (.agg (By m)) w := by
  have hc : (loadCells ⟨g, off, none⟩ (By m).toList.length).run Tryd.prog w = .ok (By m).toList.toArray w :=
    run_loadCells_list (P := Tryd.prog) w ⟨g, off, none⟩ (By m).toList (fun j v hv => by
      rw [addr_add, h.at]
      have hv2 : (By m)[j]? = some v := by simpa using hv
      rw [By_at] at hv2
      cases hj : m[j]? with
      | none => rw [hj] at hv2; cases hv2
      | some b =>
        rw [hj] at hv2
        have : l[off + j]? = some b := by
          rw [← List.getElem?_drop, ← hj, ← hm, List.getElem?_take]
          split
          · rfl
          · rename_i hlt
            rw [← hm, List.getElem?_take, if_neg hlt] at hj
            cases hj
        rw [this]
        exact hv2)
  have hagg : (isAgg 66).run Tryd.prog w = .ok true w := by
    unfold isAgg
    rw [Sem.run_bind, run_underlying Tryd.underlying66 w]
    rfl
  have hsz : (sizeOf 66).run Tryd.prog w = .ok 256 w := by kernel_rfl
  have hlen : (By m).toList.length = 256 := by simp [By, hl]
  rw [hlen] at hc
  simp [loadVar, Sem.run_bind, hagg, hsz, hc]
theorem Byt.store_at {T : TypeId} {w : World} {g : Nat} {l : List UInt8} (h : Byt T w g l) (off : Nat) (m : List UInt8) (hl : m.length = 256) (hf : off + 256 ≤ l.length) :
    (storeVar 66 ⟨g, off, none⟩ (.agg (By m))).run Tryd.prog w = .ok () (w.setRow g (By (l.take off ++ m ++ l.drop (off + 256)))) := by
  have hsz : (sizeOf 66).run Tryd.prog w = .ok 256 w := by kernel_rfl
  have hlen : (By m).toList.length = 256 := by simp [By, hl]
  have hst := run_storeCells_at Tryd.prog g off T (By m).toList 0 (By l) w h (by rw [hlen, By_size]; omega) (By_one m)
  rw [Nat.add_zero, hlen] at hst
  have e : ((By l).toList.take off ++ (By m).toList ++ (By l).toList.drop (off + 256)).toArray = By (l.take off ++ m ++ l.drop (off + 256)) := by
    apply Array.ext'
    simp only [By, List.map_append, List.map_take, List.map_drop]
  rw [e] at hst
  have hc : (Value.agg (By m)).cells = By m := rfl
  have hs2 : (By m).size = 256 := by rw [By_size, hl]
  simp [storeVar, Sem.run_bind, hsz, hc, hs2, hst]
end Go.Proofs.YtbjmbndeaobbeaaDoor
