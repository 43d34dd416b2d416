/-
  The reader: New, Add, size.
-/
import Derived.Test.YtnbljpdfmomjjaaNumPT
import Derived.Test.YtnbljpdfmomjjaaHexMath
import Derived.Lib.AppendStr
import Derived.Outline
namespace Go.Proofs.Ytnbljpdfmomjjaa
open Go.RowKit
set_option linter.unusedVariables false

/-- A reader that holds these bytes, in a row of its own. -/
def RB (w : World) (lo p : Nat) (l : List UInt8) (bad : Bool) : Prop :=
  lo ≤ p ∧ ∃ v, w.heap[p]? = some (.cells #[v, .bool bad] 53 (0, 0)) ∧ w.ownsRow lo 5 1 v l.length (l.map vby)
theorem RB.lt {w : World} {lo p : Nat} {l : List UInt8} {bad : Bool} (h : RB w lo p l bad) : p < w.heap.size := by
  obtain ⟨_, v, hh, _⟩ := h
  exact (Array.getElem?_eq_some_iff.1 hh).1
theorem own_keep {w w' : World} {base : Nat} {e : TypeId} {v : Value} {n : Nat} {xs : List Value} (h : w.ownsRow base e 1 v n xs) (hb : ∀ g, g < w.heap.size → v.ownBlock = some g → w'.heap[g]? = w.heap[g]?) : w'.ownsRow base e 1 v n xs := by
  refine ⟨h.1, ?_⟩
  rcases h.2 with h | ⟨g, cap, cur, hv, hbg, hh, r⟩
  · exact .inl h
  · exact .inr ⟨g, cap, cur, hv, hbg, (hb g (Array.getElem?_eq_some_iff.1 hh).1 (by rw [hv]; rfl)).trans hh, r⟩
/-- The reader's own block is none of its row's. -/
theorem own_apart {w : World} {base p : Nat} {v : Value} {n : Nat} {xs : List Value} {cs : Array Value} (h : w.ownsRow base 5 1 v n xs) (hp : w.heap[p]? = some (.cells cs 53 (0, 0))) : v.ownBlock ≠ some p := by
  intro e
  rcases h.2 with ⟨rfl, _⟩ | ⟨g, cap, cur, rfl, hbg, hh, r⟩
  · cases e
  · simp only [Value.ownBlock, Option.some.injEq] at e
    subst e
    rw [hp] at hh
    injection hh with hh
    injection hh with _ h2
    exact absurd h2 (by decide)
theorem RB.below {w w' : World} {lo p : Nat} {l : List UInt8} {bad : Bool} (h : RB w lo p l bad) (b : Below w.heap.size w w') : RB w' lo p l bad := by
  obtain ⟨h0, v, hh, ho⟩ := h
  exact ⟨h0, v, (b.block p (Array.getElem?_eq_some_iff.1 hh).1).trans hh, own_keep ho fun g hg _ => b.block g hg⟩
theorem RB.drew {w : World} {lo p : Nat} {l : List UInt8} {bad : Bool} (h : RB w lo p l bad) : RB w.drew lo p l bad := h
/-- A new value, and a new row, in the reader. -/
theorem RB.put {w : World} {lo p : Nat} {v v' : Value} {l : List UInt8} {b : Bool} (h0 : lo ≤ p) (hh : w.heap[p]? = some (.cells #[v, .bool b] 53 (0, 0))) (ho : w.ownsRow lo 5 1 v' l.length (l.map vby)) : RB (w.setCell ⟨p, 0, none⟩ v') lo p l b := by
  refine ⟨h0, v', ?_, ?_⟩
  · rw [heap_setCell_same w p 0 _ _ _ hh]
    rfl
  · refine own_keep ho fun g hg hv => ?_
    have hne : g ≠ p := by
      rintro rfl
      exact own_apart ho hh hv
    exact heap_setCell_other w ⟨p, 0, none⟩ g v' (by simpa using hne)
theorem own_shape {w : World} {base : Nat} {e : TypeId} {v : Value} {n : Nat} {xs : List Value} (h : w.ownsRow base e 1 v n xs) : ∃ a c, v = .slice a n c := by
  rcases h.2 with ⟨rfl, rfl⟩ | ⟨g, cap, cur, rfl, _⟩
  · exact ⟨_, _, rfl⟩
  · exact ⟨_, _, rfl⟩
theorem own_cap {w : World} {base : Nat} {e : TypeId} {a : Option Addr} {c : Nat} {n : Nat} {xs : List Value} (h : w.ownsRow base e 1 (.slice a n c) n xs) : n ≤ c ∧ c ≤ maxLen := by
  rcases h.2 with ⟨hv, rfl⟩ | ⟨g, cap, cur, hv, _, _, h1, h2, _⟩
  · exact ⟨Nat.zero_le _, by injection hv with _ _ h; subst h; exact Nat.zero_le _⟩
  · injection hv with _ _ h; subst h; exact ⟨h1, h2⟩
set_option maxHeartbeats 800000 in
theorem new_any (w : World) :
    Calls Try.prog 9 #[] w fun e w' => e = .returned (.pointer (some ⟨w.heap.size, 0, none⟩)) ∧ RB w' w.heap.size w.heap.size [] false ∧ Below w.heap.size w w' := by
  go_enter Try.func9, Try.ntmps9
  go_wp2_with fail
  go_ret
  exact ⟨rfl, ⟨Nat.le_refl _, .slice none 0 0, heap_alloc_new w _, World.ownsRow_nil _ _ _ _⟩, (Below.refl _ _).alloc (Nat.le_refl _) _⟩
theorem strCells_vby (s : ByteArray) : Lib.strCells s = s.data.toList.map vby := rfl
set_option maxHeartbeats 1600000 in
theorem add_good (lo p : Nat) (l : List UInt8) (b : ByteArray) (w : World) (hlo : lo ≤ w.heap.size) (h : RB w lo p l false) (hz : l.length + b.size ≤ 140737488355328) :
    Calls Try.prog 10 #[.pointer (some ⟨p, 0, none⟩), .string b] w fun e w' => e = .returned (.int .i64 0) ∧ RB w' lo p (l ++ b.data.toList) false ∧ Below lo w w' := by
  obtain ⟨i0, hi, hz0, hz1, hz2⟩ := info_parts info_byte
  obtain ⟨h0, v, hh, ho⟩ := h
  have HO := Lib.hid ho
  have HH := Lib.hid hh
  have hap := Lib.hid (own_apart ho hh)
  have c0 := cell_of_row w p 0 _ _ _ hh
  have c1 := cell_of_row w p 1 _ _ _ hh
  simp only [List.getElem?_toArray] at c0 c1
  have c0' : w.cell? ⟨p, 0, none⟩ = some v := c0
  have c1' : w.cell? ⟨p, 1, none⟩ = some (.bool false) := c1
  clear c0 c1 hh ho
  go_enter Try.func10, Try.ntmps10
  go_wp2_with (at_builtin; refine Lib.wpList_append_own_string _ rfl (.tmp 13) (.tmp 14) 45 9 rfl lo 5 i0 Try.underlying45 Try.underlying9 hi hz0 hz1 hz2 v l.length _ rfl HO.out b rfl (by unfold maxLen; omega) (by omega) hlo ?_)
  intro v' w2 hown hgrow _
  obtain ⟨a', c', rfl⟩ := own_shape hown
  have hh2 : w2.heap[p]? = some (.cells #[v, .bool false] 53 (0, 0)) := (hgrow.block p (Array.getElem?_eq_some_iff.1 HH.out).1 (fun e => hap.out e.symm)).trans HH.out
  have c2 : w2.cell? ⟨p, 0, none⟩ = some v := cell_of_row w2 p 0 _ _ _ hh2
  have f2 := frozen_of_row w2 p 0 _ _ hh2
  have bl : Below lo w w2 := (Below.refl _ _).grown hgrow hlo (fun g hg => (HO.out.lt g hg).1)
  have FR : Hid (RB (w2.setCell ⟨p, 0, none⟩ (.slice a' (l.length + b.size) c')) lo p (l ++ b.data.toList) false) := Lib.hid (RB.put h0 hh2 (by
    rw [strCells_vby, ← List.map_append] at hown
    have hl : (l ++ b.data.toList).length = l.length + b.size := by simp
    rw [hl]
    exact hown))
  have FB : Hid (Below lo w (w2.setCell ⟨p, 0, none⟩ (.slice a' (l.length + b.size) c'))) := Lib.hid (bl.setCell h0 _)
  clear hown hgrow hh2 bl HO HH hap
  go_wp2_with fail
  go_ret
  exact ⟨rfl, FR.out, FB.out⟩
set_option maxHeartbeats 800000 in
theorem size_short (lo p : Nat) (l : List UInt8) (bad : Bool) (w : World) (h : RB w lo p l bad) (hl : l.length < 2) :
    Calls Try.prog 19 #[.pointer (some ⟨p, 0, none⟩)] w fun e w' => e = .returned (.tuple #[.int .i64 0, .bool false]) ∧ w = w' := by
  obtain ⟨h0, v, hh, ho⟩ := h
  obtain ⟨a, c, rfl⟩ := own_shape ho
  have c0 : w.cell? ⟨p, 0, none⟩ = some (.slice a l.length c) := cell_of_row w p 0 _ _ _ hh
  have hli : (l.length : Int) < 2 := by omega
  clear hh ho
  go_enter Try.func19, Try.ntmps19
  go_wp2_with fail
  go_ret2
  exact ⟨rfl, rfl⟩
set_option maxHeartbeats 800000 in
theorem size_long (lo p : Nat) (l : List UInt8) (bad : Bool) (w : World) (n : Nat) (h : RB w lo p l bad) (hl : 2 ≤ l.length) (hmax : l.length ≤ 70368744177664) (hn : Hid (M.val (l.take 2) = n)) :
    Calls Try.prog 19 #[.pointer (some ⟨p, 0, none⟩)] w fun e w' => e = .returned (.tuple #[.int .i64 (n : Int), .bool true]) ∧ Below w.heap.size w w' := by
  obtain ⟨h0, v, hh, ho⟩ := h
  have hn2 : n < 65536 := by
    have h1 := M.val_lt (l.take 2)
    have h2 : (l.take 2).length = 2 := by simp; omega
    rw [h2] at h1
    rw [← hn.out]
    have h3 : (256 : Nat) ^ 2 = 65536 := by decide
    omega
  rcases own_cells ho with ⟨rfl, hx⟩ | ⟨g, cap, hv, hvl, hc⟩
  · have : l = [] := by simpa using hx
    subst this
    simp at hl
  · rw [List.length_map] at hv
    subst hv
    clear hvl
    have hcap := own_cap ho
    have c0 : w.cell? ⟨p, 0, none⟩ = some (.slice (some ⟨g, 0, none⟩) l.length cap) := cell_of_row w p 0 _ _ _ hh
    have hcv : (convert 45 9 (.slice (some ⟨g, 0, none⟩) 2 cap)).run Try.prog w = .ok (.string (Str (l.take 2))) w := by
      have h2 : (l.take 2).length = 2 := by simp; omega
      have := run_convert_bytes_back (P := Try.prog) w 45 9 5 ⟨g, 0, none⟩ cap (l.take 2) Try.underlying45 Try.underlying5 Try.underlying9 (fun j hj => hc j _ (by
        have hj2 : j < l.length := by rw [h2] at hj; omega
        rw [List.getElem?_map, List.getElem?_eq_getElem hj2, List.getElem_take]; rfl))
      rw [h2] at this
      exact this
    have hTK : takeOk (Str (l.take 2)) 2 = true := by simp [takeOk, Str_size]; omega
    have TK := Lib.hid hTK
    have HV : Hid (M.val ((Str (l.take 2)).data.toList.take (2 : Int).toNat) = n) := Lib.hid (by rw [Str_list, ← hn.out, show (2 : Int).toNat = 2 from rfl, List.take_take, Nat.min_self])
    have hli : ¬ ((l.length : Int) < 2) := by omega
    have hci : 2 ≤ (cap : Int) := by omega
    generalize Str (l.take 2) = t at *
    clear hh ho hc hTK
    go_enter Try.func19, Try.ntmps19
    go_wp2_with fail
    refine (take_yes _ _ _ TK.out).mono ?_
    rw [HV.out]
    generalize t.extract (2 : Int).toNat t.size = rst
    rintro e w2 ⟨rfl, b2⟩
    go_wp2_with fail
    go_ret2
    exact ⟨rfl, b2⟩
end Go.Proofs.Ytnbljpdfmomjjaa
