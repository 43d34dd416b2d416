/-
  The reader whose bytes may begin inside a row.
-/
import Derived.Test.YtnbljpdfmomjjaaFrame
import Derived.Outline
namespace Go.Proofs.Ytnbljpdfmomjjaa
open Go.RowKit
set_option linter.unusedVariables false

/-- A reader that holds these bytes, somewhere in a row. -/
def RO (w : World) (lo p : Nat) (l : List UInt8) : Prop :=
  lo ≤ p ∧ ∃ g off cap, w.heap[p]? = some (.cells #[.slice (some ⟨g, off, none⟩) l.length cap, .bool false] 53 (0, 0)) ∧ g ≠ p ∧ g < w.heap.size ∧ l.length ≤ cap ∧ cap ≤ maxLen ∧ ∀ j (h : j < l.length), w.cell? ⟨g, off + j, none⟩ = some (vby l[j])
theorem RO.below {w w' : World} {lo p : Nat} {l : List UInt8} (h : RO w lo p l) (b : Below w.heap.size w w') : RO w' lo p l := by
  obtain ⟨h0, g, off, cap, hh, hne, hg, h1, h2, hc⟩ := h
  exact ⟨h0, g, off, cap, (b.block p (Array.getElem?_eq_some_iff.1 hh).1).trans hh, hne, Nat.lt_of_lt_of_le hg b.size, h1, h2, fun j hj => (b.cell (p := ⟨g, off + j, none⟩) hg).trans (hc j hj)⟩
theorem RB.off {w : World} {lo p : Nat} {l : List UInt8} (h : RB w lo p l false) (hl : 0 < l.length) : RO w lo p l := by
  obtain ⟨h0, v, hh, ho⟩ := h
  have hap := own_apart ho hh
  rcases own_cells ho with ⟨rfl, hx⟩ | ⟨g, cap, hv, hvl, hc⟩
  · have : l = [] := by simpa using hx
    subst this
    simp at hl
  · rw [List.length_map] at hv
    subst hv
    have hcap := own_cap ho
    have hgl := ho.lt g rfl
    refine ⟨h0, g, 0, cap, hh, fun e => hap (by rw [e]; rfl), hgl.2, hcap.1, hcap.2, fun j hj => ?_⟩
    have := hc j (vby l[j]) (by rw [List.getElem?_map, List.getElem?_eq_getElem hj]; rfl)
    rwa [addr_add] at this
theorem RO.cells {w : World} {lo p : Nat} {l : List UInt8} (h : RO w lo p l) : ∃ a c, w.cell? ⟨p, 0, none⟩ = some (.slice a l.length c) ∧ w.cell? ⟨p, 1, none⟩ = some (.bool false) := by
  obtain ⟨h0, g, off, cap, hh, _⟩ := h
  exact ⟨_, _, cell_of_row w p 0 _ _ _ hh, cell_of_row w p 1 _ _ _ hh⟩
set_option maxHeartbeats 800000 in
theorem size_ro (lo p : Nat) (l : List UInt8) (w : World) (n : Nat) (h : RO w lo p l) (hl : 2 ≤ l.length) (hn : Hid (M.val (l.take 2) = n)) :
    Calls Try.prog 19 #[.pointer (some ⟨p, 0, none⟩)] w fun e w' => e = .returned (.tuple #[.int .i64 (n : Int), .bool true]) ∧ Below w.heap.size w w' := by
  obtain ⟨h0, g, off, cap, hh, hne, hg, hc1, hc2, hc⟩ := h
  have h2 : (l.take 2).length = 2 := by simp; omega
  have hn2 : n < 65536 := by
    have h1 := M.val_lt (l.take 2)
    rw [h2] at h1
    rw [← hn.out]
    have h3 : (256 : Nat) ^ 2 = 65536 := by decide
    omega
  have c0 : w.cell? ⟨p, 0, none⟩ = some (.slice (some ⟨g, off, none⟩) l.length cap) := cell_of_row w p 0 _ _ _ hh
  have hcv : (convert 45 9 (.slice (some ⟨g, off, none⟩) 2 cap)).run Try.prog w = .ok (.string (Str (l.take 2))) w := by
    have := run_convert_bytes_back (P := Try.prog) w 45 9 5 ⟨g, off, none⟩ cap (l.take 2) Try.underlying45 Try.underlying5 Try.underlying9 (fun j hj => by
      have hj2 : j < l.length := by rw [h2] at hj; omega
      rw [addr_add, hc j hj2, List.getElem_take]; rfl)
    rw [h2] at this
    exact this
  have hTK : takeOk (Str (l.take 2)) 2 = true := by simp [takeOk, Str_size]; omega
  have TK := Lib.hid hTK
  have HV : Hid (M.val ((Str (l.take 2)).data.toList.take (2 : Int).toNat) = n) := Lib.hid (by rw [Str_list, ← hn.out, show (2 : Int).toNat = 2 from rfl, List.take_take, Nat.min_self])
  have hli : ¬ ((l.length : Int) < 2) := by omega
  have hci : 2 ≤ (cap : Int) := by omega
  have hci2 : (cap : Int) ≤ 9223372036854775807 := by unfold maxLen at hc2; omega
  generalize Str (l.take 2) = t at *
  clear hh hc hTK h2
  go_enter Try.func19, Try.ntmps19
  go_wp2_with fail
  refine (take_yes _ _ _ TK.out).mono ?_
  rw [HV.out]
  generalize t.extract (2 : Int).toNat t.size = rst
  rintro e w2 ⟨rfl, b2⟩
  go_wp2_with fail
  go_ret2
  exact ⟨rfl, b2⟩
set_option maxHeartbeats 1600000 in
set_option maxRecDepth 20000 in
theorem tell_ro (lo p : Nat) (l : List UInt8) (n : Nat) (w : World) (hlo : lo ≤ w.heap.size) (h : RO w lo p l) (hn : Hid (M.val (l.take 2) = n)) (hl : 2 + n < l.length) (hn2 : n ≤ 200) (hmax : (l.length : Int) ≤ 140737488355328) :
    Calls Try.prog 22 #[.pointer (some ⟨p, 0, none⟩)] w fun e w' => e = .returned (.tuple #[.string (Str ((l.drop 2).take n)), .bool true, .int .i64 0]) ∧ RO w' lo p (l.drop (2 + n)) ∧ Below lo w w' := by
  go_enter Try.func22, Try.ntmps22
  go_wp2_with fail
  refine (size_ro lo p l _ n h (by omega) hn).mono ?_
  rintro e w1 ⟨rfl, b1⟩
  have h1 := h.below b1
  have bw : Below lo w w1 := b1.mono hlo
  clear h b1
  obtain ⟨h0, g, off, cap, hh, hne, hg, hc1, hc2, hc⟩ := h1
  have c0 : w1.cell? ⟨p, 0, none⟩ = some (.slice (some ⟨g, off, none⟩) l.length cap) := cell_of_row w1 p 0 _ _ _ hh
  have f0 := frozen_of_row w1 p 0 _ _ hh
  have i1 : 2 + (n : Int) < (l.length : Int) := by omega
  have i2 : (l.length : Int) ≤ (cap : Int) := by omega
  have i3 : (cap : Int) ≤ 9223372036854775807 := by unfold maxLen at hc2; omega
  have i4 : (n : Int) ≤ 200 := by omega
  have HH := Lib.hid hh
  have HC := Lib.hid hc
  have HC2 := Lib.hid hc2
  clear hh hc hc2
  have hlen : (l.drop (2 + n)).length = l.length - (2 + n) := by simp
  have hcl : ∀ j (h : j < (l.drop (2 + n)).length), w1.cell? ⟨g, off + (2 + n) + j, none⟩ = some (vby (l.drop (2 + n))[j]) := fun j hj => by
    rw [hlen] at hj
    have h2 := HC.out (2 + n + j) (by omega)
    rw [show off + (2 + n) + j = off + (2 + n + j) by omega, h2]
    simp
  have hsz : ∀ v0, (w1.setCell ⟨p, 0, none⟩ v0).heap.size = w1.heap.size := fun v0 => by simp [World.setCell]
  have hp1 : p < w1.heap.size := (Array.getElem?_eq_some_iff.1 HH.out).1
  have hlo1 : lo ≤ w1.heap.size := Nat.le_trans hlo bw.size
  have hcl2 : ∀ v0, ∀ j (h : j < (l.drop (2 + n)).length), (w1.setCell ⟨p, 0, none⟩ v0).cell? ⟨g, off + (2 + n) + j, none⟩ = some (vby (l.drop (2 + n))[j]) := fun v0 j hj => by
    rw [World.cell?_setCell_other _ _ _ _ (by intro he; injection he with he _; exact hne he.symm)]
    exact hcl j hj
  have key : (l.length - (2 + n) < 202) → ∀ v0 cap', 
      Calls Try.prog 27 #[.slice (some ⟨g, off + (2 + n), none⟩) (l.length - (2 + n)) cap'] (w1.setCell ⟨p, 0, none⟩ v0) fun e w' => ∃ a' c', e = .returned (.slice a' (l.length - (2 + n)) c') ∧ w'.cell? ⟨p, 0, none⟩ = some v0 ∧ w'.frozen? ⟨p, 0, none⟩ = false ∧ RO (w'.setCell ⟨p, 0, none⟩ (.slice a' (l.length - (2 + n)) c')) lo p (l.drop (2 + n)) ∧ Below lo w (w'.setCell ⟨p, 0, none⟩ (.slice a' (l.length - (2 + n)) c')) := fun h202 v0 cap' => by
    refine (clone_any ⟨g, off + (2 + n), none⟩ (l.drop (2 + n)) (l.length - (2 + n)) cap' _ hlen (fun j hj => by rw [addr_add]; exact hcl2 v0 j hj) (by rw [hlen]; omega)).mono ?_
    rintro e w3 ⟨v', rfl, hown, b3⟩
    have hh3 : w3.heap[p]? = some (.cells #[v0, .bool false] 53 (0, 0)) := by
      rw [b3.block p (by rw [hsz]; exact hp1), heap_setCell_same w1 p 0 _ _ _ HH.out]
      rfl
    obtain ⟨a', c', rfl⟩ := own_shape hown
    rw [hsz] at hown
    rw [← hlen] at hown ⊢
    refine ⟨a', c', rfl, cell_of_row w3 p 0 _ _ _ hh3, frozen_of_row w3 p 0 _ _ hh3, (RB.put h0 hh3 (own_base hown hlo1)).off (by rw [hlen]; omega), ?_⟩
    exact ((bw.setCell h0 _).trans (b3.mono (by rw [hsz]; exact hlo1))).setCell h0 _
  have keep : ∀ cap', l.length - (2 + n) ≤ cap' → cap' ≤ maxLen → RO (w1.setCell ⟨p, 0, none⟩ (.slice (some ⟨g, off + (2 + n), none⟩) (l.length - (2 + n)) cap')) lo p (l.drop (2 + n)) ∧ Below lo w (w1.setCell ⟨p, 0, none⟩ (.slice (some ⟨g, off + (2 + n), none⟩) (l.length - (2 + n)) cap')) := fun cap' hca hcb => by
    refine ⟨⟨h0, g, off + (2 + n), cap', ?_, hne, by rw [hsz]; exact hg, by rw [hlen]; exact hca, hcb, hcl2 _⟩, bw.setCell h0 _⟩
    rw [heap_setCell_same w1 p 0 _ _ _ HH.out, hlen]
    rfl
  have hcv : (convert 45 9 (.slice (some ⟨g, off + 2, none⟩) n (cap - 2))).run Try.prog w1 = .ok (.string (Str ((l.drop 2).take n))) w1 := by
    have hln : ((l.drop 2).take n).length = n := by simp; omega
    have := run_convert_bytes_back (P := Try.prog) w1 45 9 5 ⟨g, off + 2, none⟩ (cap - 2) ((l.drop 2).take n) Try.underlying45 Try.underlying5 Try.underlying9 (fun j hj => by
      rw [hln] at hj
      have h2 := HC.out (2 + j) (by omega)
      rw [addr_add, show off + 2 + j = off + (2 + j) by omega, h2]
      simp [vby])
    rw [hln] at this
    exact this
  have KEY := Lib.hid key
  have KEEP := Lib.hid keep
  have hci : 2 + (n : Int) < (cap : Int) := by omega
  have hcn : ¬ cap = 2 := by omega
  have hcm : ¬ cap = 2 + n := by omega
  clear key keep hlen HC hcl hcl2 hsz
  rcases Nat.lt_or_ge (l.length - (2 + n)) 202 with h202 | h202
  · have hr2 : ((l.length - (2 + n) : Nat) : Int) < 202 := by omega
    go_wp2_with fail
    refine (KEY.out h202 _ _).mono ?_
    rintro e w3 ⟨a', c', rfl, c3, f3, hRB, hB⟩
    have FR := Lib.hid hRB
    have FB := Lib.hid hB
    clear hRB hB
    go_wp2_with fail
    go_ret3
    exact ⟨rfl, FR.out, FB.out⟩
  · have hr2 : ¬ ((l.length - (2 + n) : Nat) : Int) < 202 := by omega
    have K := Lib.hid (KEEP.out (cap - (2 + n)) (by omega) (by have := HC2.out; omega))
    go_wp2_with fail
    go_ret3
    exact ⟨rfl, K.out.1, K.out.2⟩
/-- What the reader says of itself. -/
def BadIs (w : World) (lo p : Nat) (b : Bool) : Prop := lo ≤ p ∧ w.cell? ⟨p, 1, none⟩ = some (.bool b)
theorem RO.badIs {w : World} {lo p : Nat} {l : List UInt8} (h : RO w lo p l) : BadIs w lo p false := by
  obtain ⟨a, c, _, c1⟩ := h.cells
  exact ⟨h.1, c1⟩
set_option maxHeartbeats 1600000 in
set_option maxRecDepth 20000 in
theorem tell_end (lo p : Nat) (l : List UInt8) (n : Nat) (w : World) (hlo : lo ≤ w.heap.size) (h : RO w lo p l) (hn : Hid (M.val (l.take 2) = n)) (hl : l.length = 2 + n) (hn2 : n ≤ 200) :
    Calls Try.prog 22 #[.pointer (some ⟨p, 0, none⟩)] w fun e w' => e = .returned (.tuple #[.string (Str ((l.drop 2).take n)), .bool true, .int .i64 0]) ∧ BadIs w' lo p false ∧ Below lo w w' := by
  go_enter Try.func22, Try.ntmps22
  go_wp2_with fail
  refine (size_ro lo p l _ n h (by omega) hn).mono ?_
  rintro e w1 ⟨rfl, b1⟩
  have h1 := h.below b1
  have bw : Below lo w w1 := b1.mono hlo
  clear h b1
  obtain ⟨h0, g, off, cap, hh, hne, hg, hc1, hc2, hc⟩ := h1
  rw [hl] at hh
  have c0 : w1.cell? ⟨p, 0, none⟩ = some (.slice (some ⟨g, off, none⟩) (2 + n) cap) := cell_of_row w1 p 0 _ _ _ hh
  have f0 := frozen_of_row w1 p 0 _ _ hh
  have i2 : 2 + (n : Int) ≤ (cap : Int) := by omega
  have i3 : (cap : Int) ≤ 9223372036854775807 := by unfold maxLen at hc2; omega
  have i4 : (n : Int) ≤ 200 := by omega
  have HH := Lib.hid hh
  have HC := Lib.hid hc
  clear hh hc hc2
  have hsz : ∀ v0, (w1.setCell ⟨p, 0, none⟩ v0).heap.size = w1.heap.size := fun v0 => by simp [World.setCell]
  have hp1 : p < w1.heap.size := (Array.getElem?_eq_some_iff.1 HH.out).1
  have hlo1 : lo ≤ w1.heap.size := Nat.le_trans hlo bw.size
  have key : ∀ A v0 cap', 
      Calls Try.prog 27 #[.slice (some A) 0 cap'] (w1.setCell ⟨p, 0, none⟩ v0) fun e w' => ∃ a' c', e = .returned (.slice a' 0 c') ∧ w'.cell? ⟨p, 0, none⟩ = some v0 ∧ w'.frozen? ⟨p, 0, none⟩ = false ∧ BadIs (w'.setCell ⟨p, 0, none⟩ (.slice a' 0 c')) lo p false ∧ Below lo w (w'.setCell ⟨p, 0, none⟩ (.slice a' 0 c')) := fun A v0 cap' => by
    refine (clone_any A [] 0 cap' _ rfl (fun j hj => by simp at hj) (by decide)).mono ?_
    rintro e w3 ⟨v', rfl, hown, b3⟩
    have hh3 : w3.heap[p]? = some (.cells #[v0, .bool false] 53 (0, 0)) := by
      rw [b3.block p (by rw [hsz]; exact hp1), heap_setCell_same w1 p 0 _ _ _ HH.out]
      rfl
    obtain ⟨a', c', rfl⟩ := own_shape hown
    refine ⟨a', c', rfl, cell_of_row w3 p 0 _ _ _ hh3, frozen_of_row w3 p 0 _ _ hh3, ⟨h0, ?_⟩, ?_⟩
    · rw [World.cell?_setCell_other _ _ _ _ (by intro he; injection he with _ he _; omega)]
      exact cell_of_row w3 p 1 _ _ _ hh3
    · exact ((bw.setCell h0 _).trans (b3.mono (by rw [hsz]; exact hlo1))).setCell h0 _
  have hcv : ∀ o cap', (o = off + 2 ∨ n = 0) → (convert 45 9 (.slice (some ⟨g, o, none⟩) n cap')).run Try.prog w1 = .ok (.string (Str ((l.drop 2).take n))) w1 := fun o cap' ho => by
    have hln : ((l.drop 2).take n).length = n := by simp; omega
    have := run_convert_bytes_back (P := Try.prog) w1 45 9 5 ⟨g, o, none⟩ cap' ((l.drop 2).take n) Try.underlying45 Try.underlying5 Try.underlying9 (fun j hj => by
      rw [hln] at hj
      rcases ho with rfl | rfl
      · have h2 := HC.out (2 + j) (by omega)
        rw [addr_add, show off + 2 + j = off + (2 + j) by omega, h2]
        simp [vby]
      · omega)
    rw [hln] at this
    exact this
  have KEY := Lib.hid key
  have HCV := Lib.hid hcv
  clear key hcv HC hsz
  rcases (by omega : cap = 2 ∨ (2 < cap ∧ cap = 2 + n) ∨ 2 + n < cap) with hc1 | ⟨hc2, hc3⟩ | hc4
  · have hn0 : n = 0 := by omega
    have C := HCV.out off 0 (.inr hn0)
    clear HCV
    subst hn0
    subst hc1
    go_wp2_with fail
    refine (KEY.out _ _ _).mono ?_
    rintro e w3 ⟨a', c', rfl, c3, f3, hRB, hB⟩
    have FR := Lib.hid hRB
    have FB := Lib.hid hB
    clear hRB hB
    go_wp2_with fail
    go_ret3
    exact ⟨rfl, FR.out, FB.out⟩
  · have C := HCV.out (off + 2) n (.inl rfl)
    have hcn : ¬ cap = 2 := by omega
    have hce : (cap : Int) = 2 + (n : Int) := by omega
    clear HCV
    go_wp2_with fail
    refine (KEY.out _ _ _).mono ?_
    rintro e w3 ⟨a', c', rfl, c3, f3, hRB, hB⟩
    have FR := Lib.hid hRB
    have FB := Lib.hid hB
    clear hRB hB
    go_wp2_with fail
    go_ret3
    exact ⟨rfl, FR.out, FB.out⟩
  · have C := HCV.out (off + 2) (cap - 2) (.inl rfl)
    have hci : 2 + (n : Int) < (cap : Int) := by omega
    have hcn : ¬ cap = 2 := by omega
    have hcm : ¬ cap = 2 + n := by omega
    clear HCV
    go_wp2_with fail
    refine (KEY.out _ _ _).mono ?_
    rintro e w3 ⟨a', c', rfl, c3, f3, hRB, hB⟩
    have FR := Lib.hid hRB
    have FB := Lib.hid hB
    clear hRB hB
    go_wp2_with fail
    go_ret3
    exact ⟨rfl, FR.out, FB.out⟩
set_option maxHeartbeats 800000 in
theorem spoil_ro (lo p : Nat) (l : List UInt8) (w : World) (hlo : lo ≤ w.heap.size) (h : RO w lo p l) :
    Calls Try.prog 21 #[.pointer (some ⟨p, 0, none⟩)] w fun e w' => e = .returned (.tuple #[.string ⟨#[]⟩, .bool false, .int .i64 16]) ∧ RB w' lo p [] true ∧ Below lo w w' := by
  obtain ⟨h0, g, off, cap, hh, _⟩ := h
  have HH := Lib.hid hh
  have c0 := cell_of_row w p 0 _ _ _ hh
  have c0' : w.cell? ⟨p, 0, none⟩ = some (.slice (some ⟨g, off, none⟩) l.length cap) := c0
  have c1 : w.cell? ⟨p, 1, none⟩ = some (.bool false) := cell_of_row w p 1 _ _ _ hh
  have f0 := frozen_of_row w p 0 _ _ hh
  have f1 := frozen_of_row w p 1 _ _ hh
  clear hh c0
  go_enter Try.func21, Try.ntmps21
  go_wp2_with fail
  go_ret3
  have r1 : (w.setCell ⟨p, 0, none⟩ (.slice none 0 0)).heap[p]? = some (.cells #[.slice none 0 0, .bool false] 53 (0, 0)) := by
    rw [heap_setCell_same w p 0 _ _ _ HH.out]; rfl
  have r2 : ((w.setCell ⟨p, 0, none⟩ (.slice none 0 0)).setCell ⟨p, 1, none⟩ (.bool true)).heap[p]? = some (.cells #[.slice none 0 0, .bool true] 53 (0, 0)) := by
    rw [heap_setCell_same _ p 1 _ _ _ r1]; rfl
  exact ⟨rfl, ⟨h0, .slice none 0 0, r2, World.ownsRow_nil _ _ _ _⟩, ((Below.refl _ _).setCell h0 _).setCell h0 _⟩
set_option maxHeartbeats 1600000 in
theorem nextO_wait (lo p : Nat) (l : List UInt8) (n : Nat) (w : World) (hlo : lo ≤ w.heap.size) (h : RO w lo p l) (hl : 2 ≤ l.length) (hn : Hid (M.val (l.take 2) = n)) (h200 : (n : Int) ≤ 200) (hlt : (l.length : Int) < 2 + (n : Int)) :
    Calls Try.prog 12 #[.pointer (some ⟨p, 0, none⟩)] w fun e w' => e = .returned (.tuple #[.string ⟨#[]⟩, .bool false, .int .i64 0]) ∧ BadIs w' lo p false ∧ Below lo w w' := by
  have H := Lib.hid h
  clear h
  go_enter Try.func12, Try.ntmps12
  go_wp2_with fail
  refine (size_ro lo p l _ n H.out hl hn).mono ?_
  rintro e w1 ⟨rfl, b1⟩
  have H1 := Lib.hid (H.out.below b1)
  have B1 := Lib.hid (b1.mono hlo)
  clear b1
  obtain ⟨a, c, c0, c1⟩ := H1.out.cells
  go_wp2_with fail
  refine (wait_any p _).mono ?_
  rintro e w2 ⟨rfl, rfl⟩
  go_wp2_with fail
  go_ret3
  exact ⟨rfl, H1.out.badIs, B1.out⟩
set_option maxHeartbeats 1600000 in
theorem nextO_spoil (lo p : Nat) (l : List UInt8) (n : Nat) (w : World) (hlo : lo ≤ w.heap.size) (h : RO w lo p l) (hl : 2 ≤ l.length) (hn : Hid (M.val (l.take 2) = n)) (h200 : 200 < (n : Int)) :
    Calls Try.prog 12 #[.pointer (some ⟨p, 0, none⟩)] w fun e w' => e = .returned (.tuple #[.string ⟨#[]⟩, .bool false, .int .i64 16]) ∧ RB w' lo p [] true ∧ Below lo w w' := by
  have H := Lib.hid h
  clear h
  go_enter Try.func12, Try.ntmps12
  go_wp2_with fail
  refine (size_ro lo p l _ n H.out hl hn).mono ?_
  rintro e w1 ⟨rfl, b1⟩
  have H1 := Lib.hid (H.out.below b1)
  have B1 := Lib.hid (b1.mono hlo)
  have hlo1 : lo ≤ w1.heap.size := Nat.le_trans hlo b1.size
  clear b1
  obtain ⟨a, c, c0, c1⟩ := H1.out.cells
  go_wp2_with fail
  refine (spoil_ro lo p l _ hlo1 H1.out).mono ?_
  rintro e w2 ⟨rfl, h2, b2⟩
  have H2 := Lib.hid h2
  have B2 := Lib.hid (B1.out.trans b2)
  clear h2 b2
  go_wp2_with fail
  go_ret3
  exact ⟨rfl, H2.out, B2.out⟩
set_option maxHeartbeats 1600000 in
theorem nextO_tell (lo p : Nat) (l : List UInt8) (n : Nat) (t : ByteArray) (w : World) (ht : Hid (Str ((l.drop 2).take n) = t)) (hlo : lo ≤ w.heap.size) (h : RO w lo p l) (hl : 2 + n < l.length) (hmax : (l.length : Int) ≤ 140737488355328) (hn : Hid (M.val (l.take 2) = n)) (h200 : (n : Int) ≤ 200) :
    Calls Try.prog 12 #[.pointer (some ⟨p, 0, none⟩)] w fun e w' => e = .returned (.tuple #[.string t, .bool true, .int .i64 0]) ∧ RO w' lo p (l.drop (2 + n)) ∧ Below lo w w' := by
  have H := Lib.hid h
  clear h
  have hli : 2 + (n : Int) ≤ (l.length : Int) := by omega
  go_enter Try.func12, Try.ntmps12
  go_wp2_with fail
  refine (size_ro lo p l _ n H.out (by omega) hn).mono ?_
  rintro e w1 ⟨rfl, b1⟩
  have H1 := Lib.hid (H.out.below b1)
  have B1 := Lib.hid (b1.mono hlo)
  have hlo1 : lo ≤ w1.heap.size := Nat.le_trans hlo b1.size
  clear b1
  obtain ⟨a, c, c0, c1⟩ := H1.out.cells
  go_wp2_with fail
  refine (tell_ro lo p l n _ hlo1 H1.out hn hl (by omega) hmax).mono ?_
  rw [ht.out]
  rintro e w2 ⟨rfl, h2, b2⟩
  have H2 := Lib.hid h2
  have B2 := Lib.hid (B1.out.trans b2)
  clear h2 b2
  go_wp2_with fail
  go_ret3
  exact ⟨rfl, H2.out, B2.out⟩
set_option maxHeartbeats 1600000 in
theorem nextO_end (lo p : Nat) (l : List UInt8) (n : Nat) (t : ByteArray) (w : World) (ht : Hid (Str ((l.drop 2).take n) = t)) (hlo : lo ≤ w.heap.size) (h : RO w lo p l) (hl : l.length = 2 + n) (hn : Hid (M.val (l.take 2) = n)) (h200 : (n : Int) ≤ 200) :
    Calls Try.prog 12 #[.pointer (some ⟨p, 0, none⟩)] w fun e w' => e = .returned (.tuple #[.string t, .bool true, .int .i64 0]) ∧ BadIs w' lo p false ∧ Below lo w w' := by
  have H := Lib.hid h
  clear h
  have hli : 2 + (n : Int) ≤ (l.length : Int) := by omega
  go_enter Try.func12, Try.ntmps12
  go_wp2_with fail
  refine (size_ro lo p l _ n H.out (by omega) hn).mono ?_
  rintro e w1 ⟨rfl, b1⟩
  have H1 := Lib.hid (H.out.below b1)
  have B1 := Lib.hid (b1.mono hlo)
  have hlo1 : lo ≤ w1.heap.size := Nat.le_trans hlo b1.size
  clear b1
  obtain ⟨a, c, c0, c1⟩ := H1.out.cells
  go_wp2_with fail
  refine (tell_end lo p l n _ hlo1 H1.out hn hl (by omega)).mono ?_
  rw [ht.out]
  rintro e w2 ⟨rfl, h2, b2⟩
  have H2 := Lib.hid h2
  have B2 := Lib.hid (B1.out.trans b2)
  clear h2 b2
  go_wp2_with fail
  go_ret3
  exact ⟨rfl, H2.out, B2.out⟩
set_option maxHeartbeats 800000 in
theorem badO_any (lo p : Nat) (bad : Bool) (w : World) (h : BadIs w lo p bad) :
    Calls Try.prog 15 #[.pointer (some ⟨p, 0, none⟩)] w fun e w' => e = .returned (.bool bad) ∧ w = w' := by
  obtain ⟨_, c1⟩ := h
  go_enter Try.func15, Try.ntmps15
  go_wp2_with fail
  go_ret
  exact ⟨rfl, rfl⟩
set_option maxHeartbeats 800000 in
theorem add_bad (lo p : Nat) (l : List UInt8) (b : ByteArray) (w : World) (h : RB w lo p l true) :
    Calls Try.prog 10 #[.pointer (some ⟨p, 0, none⟩), .string b] w fun e w' => e = .returned (.int .i64 6) ∧ w = w' := by
  obtain ⟨a, c, c0, c1⟩ := h.cells
  clear h
  go_enter Try.func10, Try.ntmps10
  go_wp2_with fail
  go_ret
  exact ⟨rfl, rfl⟩
end Go.Proofs.Ytnbljpdfmomjjaa
