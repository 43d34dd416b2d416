/-
  The reader, told by what it may change: its own block, and rows of its own from a place on.
-/
import Derived.Test.YtnbljpdfmomjjaaFrame
import Derived.Outline
namespace Go.Proofs.Ytnbljpdfmomjjaa
open Go.RowKit
set_option linter.unusedVariables false

/-- Nothing below lo has changed but block p. -/
structure Bx (lo p : Nat) (w w' : World) : Prop where
  os : w'.os = w.os
  tape : w'.tape = w.tape
  output : w'.output = w.output
  size : w.heap.size ≤ w'.heap.size
  block : ∀ k, k < lo → k ≠ p → w'.heap[k]? = w.heap[k]?
theorem Bx.refl (lo p : Nat) (w : World) : Bx lo p w w := ⟨rfl, rfl, rfl, Nat.le_refl _, fun _ _ _ => rfl⟩
theorem Bx.trans {lo p : Nat} {a b c : World} (h : Bx lo p a b) (k : Bx lo p b c) : Bx lo p a c :=
  ⟨k.os.trans h.os, k.tape.trans h.tape, k.output.trans h.output, Nat.le_trans h.size k.size, fun j h1 h2 => (k.block j h1 h2).trans (h.block j h1 h2)⟩
theorem Bx.of {lo p B : Nat} {w w' : World} (h : Below B w w') (hB : lo ≤ B) : Bx lo p w w' :=
  ⟨h.os, h.tape, h.output, h.size, fun k hk _ => h.block k (Nat.lt_of_lt_of_le hk hB)⟩
theorem Bx.set {lo p : Nat} {w w' : World} (h : Bx lo p w w') (j : Nat) (v : Value) : Bx lo p w (w'.setCell ⟨p, j, none⟩ v) := by
  have hs : (w'.setCell ⟨p, j, none⟩ v).heap.size = w'.heap.size := by simp [World.setCell]
  exact ⟨h.os, h.tape, h.output, by rw [hs]; exact h.size, fun k h1 h2 => (heap_setCell_other w' ⟨p, j, none⟩ k v (by simpa using h2)).trans (h.block k h1 h2)⟩
theorem Bx.below {lo p B : Nat} {w w' : World} (h : Bx lo p w w') (h1 : B ≤ lo) (h2 : B ≤ p) : Below B w w' :=
  ⟨h.os, h.tape, h.output, h.size, fun k hk => h.block k (by omega) (by omega)⟩
/-- A reader that holds these bytes: block p, and a row of its own at lo or behind. -/
def RX (w : World) (lo p : Nat) (l : List UInt8) (bad : Bool) : Prop :=
  ∃ v, w.heap[p]? = some (.cells #[v, .bool bad] 53 (0, 0)) ∧ w.ownsRow lo 5 1 v l.length (l.map vby)
theorem RX.lt {w : World} {lo p : Nat} {l : List UInt8} {bad : Bool} (h : RX w lo p l bad) : p < w.heap.size := by
  obtain ⟨v, hh, _⟩ := h
  exact (Array.getElem?_eq_some_iff.1 hh).1
theorem RX.below {w w' : World} {lo p : Nat} {l : List UInt8} {bad : Bool} (h : RX w lo p l bad) (b : Below w.heap.size w w') : RX w' lo p l bad := by
  obtain ⟨v, hh, ho⟩ := h
  exact ⟨v, (b.block p (Array.getElem?_eq_some_iff.1 hh).1).trans hh, own_keep ho fun g hg _ => b.block g hg⟩
theorem RX.put {w : World} {lo p : Nat} {v v' : Value} {l : List UInt8} {b : Bool} (hh : w.heap[p]? = some (.cells #[v, .bool b] 53 (0, 0))) (ho : w.ownsRow lo 5 1 v' l.length (l.map vby)) : RX (w.setCell ⟨p, 0, none⟩ v') lo p l b := by
  refine ⟨v', ?_, ?_⟩
  · rw [heap_setCell_same w p 0 _ _ _ hh]
    rfl
  · refine own_keep ho fun g hg hv => ?_
    have hne : g ≠ p := by
      rintro rfl
      exact own_apart ho hh hv
    exact heap_setCell_other w ⟨p, 0, none⟩ g v' (by simpa using hne)
theorem RX.cells {w : World} {lo p : Nat} {l : List UInt8} {bad : Bool} (h : RX w lo p l bad) : ∃ a c, w.cell? ⟨p, 0, none⟩ = some (.slice a l.length c) ∧ w.cell? ⟨p, 1, none⟩ = some (.bool bad) := by
  obtain ⟨v, hh, ho⟩ := h
  obtain ⟨a, c, rfl⟩ := own_shape ho
  exact ⟨a, c, cell_of_row w p 0 _ _ _ hh, cell_of_row w p 1 _ _ _ hh⟩
set_option maxHeartbeats 1600000 in
theorem add_goodX (lo p : Nat) (l : List UInt8) (b : ByteArray) (w : World) (hlo : lo ≤ w.heap.size) (h : RX w lo p l false) (hz : l.length + b.size ≤ 140737488355328) :
    Calls Try.prog 10 #[.pointer (some ⟨p, 0, none⟩), .string b] w fun e w' => e = .returned (.int .i64 0) ∧ RX w' lo p (l ++ b.data.toList) false ∧ Bx lo p w w' := by
  obtain ⟨i0, hi, hz0, hz1, hz2⟩ := info_parts info_byte
  obtain ⟨v, hh, ho⟩ := h
  have HO := Lib.hid ho
  have HH := Lib.hid hh
  have hap := Lib.hid (own_apart ho hh)
  have c0 := cell_of_row w p 0 _ _ _ hh
  have c1 := cell_of_row w p 1 _ _ _ hh
  simp only [List.getElem?_toArray] at c0 c1
  have c0' : w.cell? ⟨p, 0, none⟩ = some v := c0
  have c1' : w.cell? ⟨p, 1, none⟩ = some (.bool false) := c1
  clear c0 c1 hh ho
  go_enter Try.func10, Try.ntmps10
  go_wp2_with (at_builtin; refine Lib.wpList_append_own_string _ rfl (.tmp 13) (.tmp 14) 45 9 rfl lo 5 i0 Try.underlying45 Try.underlying9 hi hz0 hz1 hz2 v l.length _ rfl HO.out b rfl (by unfold maxLen; omega) (by omega) hlo ?_)
  intro v' w2 hown hgrow _
  obtain ⟨a', c', rfl⟩ := own_shape hown
  have hh2 : w2.heap[p]? = some (.cells #[v, .bool false] 53 (0, 0)) := (hgrow.block p (Array.getElem?_eq_some_iff.1 HH.out).1 (fun e => hap.out e.symm)).trans HH.out
  have c2 : w2.cell? ⟨p, 0, none⟩ = some v := cell_of_row w2 p 0 _ _ _ hh2
  have f2 := frozen_of_row w2 p 0 _ _ hh2
  have bl : Bx lo p w w2 := Bx.of (B := lo) ((Below.refl _ _).grown hgrow hlo (fun g hg => (HO.out.lt g hg).1)) (Nat.le_refl _)
  have FR : Hid (RX (w2.setCell ⟨p, 0, none⟩ (.slice a' (l.length + b.size) c')) lo p (l ++ b.data.toList) false) := Lib.hid (RX.put hh2 (by
    rw [strCells_vby, ← List.map_append] at hown
    have hl : (l ++ b.data.toList).length = l.length + b.size := by simp
    rw [hl]
    exact hown))
  have FB : Hid (Bx lo p w (w2.setCell ⟨p, 0, none⟩ (.slice a' (l.length + b.size) c'))) := Lib.hid (bl.set _ _)
  clear hown hgrow hh2 bl HO HH hap
  go_wp2_with fail
  go_ret
  exact ⟨rfl, FR.out, FB.out⟩
set_option maxHeartbeats 800000 in
theorem size_shortX (lo p : Nat) (l : List UInt8) (bad : Bool) (w : World) (h : RX w lo p l bad) (hl : l.length < 2) :
    Calls Try.prog 19 #[.pointer (some ⟨p, 0, none⟩)] w fun e w' => e = .returned (.tuple #[.int .i64 0, .bool false]) ∧ w = w' := by
  obtain ⟨v, hh, ho⟩ := h
  obtain ⟨a, c, rfl⟩ := own_shape ho
  have c0 : w.cell? ⟨p, 0, none⟩ = some (.slice a l.length c) := cell_of_row w p 0 _ _ _ hh
  have hli : (l.length : Int) < 2 := by omega
  clear hh ho
  go_enter Try.func19, Try.ntmps19
  go_wp2_with fail
  go_ret2
  exact ⟨rfl, rfl⟩
set_option maxHeartbeats 800000 in
theorem size_longX (lo p : Nat) (l : List UInt8) (bad : Bool) (w : World) (n : Nat) (h : RX w lo p l bad) (hl : 2 ≤ l.length) (hmax : l.length ≤ 70368744177664) (hn : Hid (M.val (l.take 2) = n)) :
    Calls Try.prog 19 #[.pointer (some ⟨p, 0, none⟩)] w fun e w' => e = .returned (.tuple #[.int .i64 (n : Int), .bool true]) ∧ Below w.heap.size w w' := by
  obtain ⟨v, hh, ho⟩ := h
  have hn2 : n < 65536 := by
    have h1 := M.val_lt (l.take 2)
    have h2 : (l.take 2).length = 2 := by simp; omega
    rw [h2] at h1
    rw [← hn.out]
    have h3 : (256 : Nat) ^ 2 = 65536 := by decide
    omega
  rcases own_cells ho with ⟨rfl, hx⟩ | ⟨g, cap, hv, hvl, hc⟩
  · have : l = [] := by simpa using hx
    subst this
    simp at hl
  · rw [List.length_map] at hv
    subst hv
    clear hvl
    have hcap := own_cap ho
    have c0 : w.cell? ⟨p, 0, none⟩ = some (.slice (some ⟨g, 0, none⟩) l.length cap) := cell_of_row w p 0 _ _ _ hh
    have hcv : (convert 45 9 (.slice (some ⟨g, 0, none⟩) 2 cap)).run Try.prog w = .ok (.string (Str (l.take 2))) w := by
      have h2 : (l.take 2).length = 2 := by simp; omega
      have := run_convert_bytes_back (P := Try.prog) w 45 9 5 ⟨g, 0, none⟩ cap (l.take 2) Try.underlying45 Try.underlying5 Try.underlying9 (fun j hj => hc j _ (by
        have hj2 : j < l.length := by rw [h2] at hj; omega
        rw [List.getElem?_map, List.getElem?_eq_getElem hj2, List.getElem_take]; rfl))
      rw [h2] at this
      exact this
    have hTK : takeOk (Str (l.take 2)) 2 = true := by simp [takeOk, Str_size]; omega
    have TK := Lib.hid hTK
    have HV : Hid (M.val ((Str (l.take 2)).data.toList.take (2 : Int).toNat) = n) := Lib.hid (by rw [Str_list, ← hn.out, show (2 : Int).toNat = 2 from rfl, List.take_take, Nat.min_self])
    have hli : ¬ ((l.length : Int) < 2) := by omega
    have hci : 2 ≤ (cap : Int) := by omega
    generalize Str (l.take 2) = t at *
    clear hh ho hc hTK
    go_enter Try.func19, Try.ntmps19
    go_wp2_with fail
    refine (take_yes _ _ _ TK.out).mono ?_
    rw [HV.out]
    generalize t.extract (2 : Int).toNat t.size = rst
    rintro e w2 ⟨rfl, b2⟩
    go_wp2_with fail
    go_ret2
    exact ⟨rfl, b2⟩
set_option maxHeartbeats 1600000 in
set_option maxRecDepth 20000 in
theorem tell_anyX (lo p : Nat) (l : List UInt8) (n : Nat) (w : World) (hlo : lo ≤ w.heap.size) (h : RX w lo p l false) (hn : Hid (M.val (l.take 2) = n)) (hl : 2 + n ≤ l.length) (hmax : l.length ≤ 1048576) (hrest : l.length < 2 + n + 202) :
    Calls Try.prog 22 #[.pointer (some ⟨p, 0, none⟩)] w fun e w' => e = .returned (.tuple #[.string (Str ((l.drop 2).take n)), .bool true, .int .i64 0]) ∧ RX w' lo p (l.drop (2 + n)) false ∧ Bx lo p w w' := by
  go_enter Try.func22, Try.ntmps22
  go_wp2_with fail
  refine (size_longX lo p l false _ n h (by omega) (by omega) hn).mono ?_
  rintro e w1 ⟨rfl, b1⟩
  have h1 := h.below b1
  have bw : Bx lo p w w1 := Bx.of b1 hlo
  clear h b1
  obtain ⟨v, hh, ho⟩ := h1
  rcases own_cells ho with ⟨rfl, hx⟩ | ⟨g, cap, hv, hvl, hc⟩
  · have : l = [] := by simpa using hx
    subst this
    simp at hl
  rw [List.length_map] at hv
  subst hv
  have hcap := own_cap ho
  have c0 : w1.cell? ⟨p, 0, none⟩ = some (.slice (some ⟨g, 0, none⟩) l.length cap) := cell_of_row w1 p 0 _ _ _ hh
  have f0 := frozen_of_row w1 p 0 _ _ hh
  have i1 : 2 + (n : Int) ≤ (l.length : Int) := by omega
  have i2 : (l.length : Int) ≤ (cap : Int) := by omega
  have i3 : (cap : Int) ≤ 9223372036854775807 := by have := hcap.2; unfold maxLen at this; omega
  have i4 : (n : Int) ≤ 1048576 := by omega
  have HH := Lib.hid hh
  have HC := Lib.hid hc
  have HO := Lib.hid ho
  clear hh ho hc hvl
  have hgp : g ≠ p := fun e => own_apart HO.out HH.out (by rw [e]; rfl)
  have hlen : (l.drop (2 + n)).length = l.length - (2 + n) := by simp
  have key : ∀ A : Addr, A.block = g → (∀ j (h : j < (l.drop (2 + n)).length), w1.cell? (A.add j) = some (vby (l.drop (2 + n))[j])) → ∀ v0 cap', 
      Calls Try.prog 27 #[.slice (some A) (l.length - (2 + n)) cap'] (w1.setCell ⟨p, 0, none⟩ v0) fun e w' => ∃ a' c', e = .returned (.slice a' (l.length - (2 + n)) c') ∧ w'.cell? ⟨p, 0, none⟩ = some v0 ∧ w'.frozen? ⟨p, 0, none⟩ = false ∧ RX (w'.setCell ⟨p, 0, none⟩ (.slice a' (l.length - (2 + n)) c')) lo p (l.drop (2 + n)) false ∧ Bx lo p w (w'.setCell ⟨p, 0, none⟩ (.slice a' (l.length - (2 + n)) c')) := fun A hA hcl v0 cap' => by
    have hcl2 : ∀ j (h : j < (l.drop (2 + n)).length), (w1.setCell ⟨p, 0, none⟩ v0).cell? (A.add j) = some (vby (l.drop (2 + n))[j]) := fun j hj => by
      rw [World.cell?_setCell_other _ _ _ _ (by
        intro he
        have hb : (A.add j).block = A.block := by unfold Addr.add; split <;> rfl
        have := congrArg Addr.block he
        rw [hb, hA] at this
        exact hgp (by simpa using this.symm))]
      exact hcl j hj
    refine (clone_any A (l.drop (2 + n)) (l.length - (2 + n)) cap' _ hlen hcl2 (by rw [hlen]; omega)).mono ?_
    rintro e w3 ⟨v', rfl, hown, b3⟩
    have hsz : (w1.setCell ⟨p, 0, none⟩ v0).heap.size = w1.heap.size := by simp [World.setCell]
    have hp1 : p < w1.heap.size := (Array.getElem?_eq_some_iff.1 HH.out).1
    have hh3 : w3.heap[p]? = some (.cells #[v0, .bool false] 53 (0, 0)) := by
      rw [b3.block p (by rw [hsz]; exact hp1), heap_setCell_same w1 p 0 _ _ _ HH.out]
      rfl
    obtain ⟨a', c', rfl⟩ := own_shape hown
    rw [hsz] at hown
    have hlo1 : lo ≤ w1.heap.size := Nat.le_trans hlo bw.size
    rw [← hlen] at hown ⊢
    refine ⟨a', c', rfl, cell_of_row w3 p 0 _ _ _ hh3, frozen_of_row w3 p 0 _ _ hh3, RX.put hh3 (own_base hown hlo1), ?_⟩
    exact ((bw.set _ _).trans (Bx.of b3 (by rw [hsz]; exact hlo1))).set _ _
  have hcv : ∀ o cap', (o = 2 ∨ n = 0) → (convert 45 9 (.slice (some ⟨g, o, none⟩) n cap')).run Try.prog w1 = .ok (.string (Str ((l.drop 2).take n))) w1 := fun o cap' ho => by
    have hln : ((l.drop 2).take n).length = n := by simp; omega
    have := run_convert_bytes_back (P := Try.prog) w1 45 9 5 ⟨g, o, none⟩ cap' ((l.drop 2).take n) Try.underlying45 Try.underlying5 Try.underlying9 (fun j hj => by
      rw [hln] at hj
      rcases ho with rfl | rfl
      · have h2 := HC.out (2 + j) (vby l[2 + j]) (by rw [List.getElem?_map, List.getElem?_eq_getElem (by omega)]; rfl)
        rw [addr_add, Nat.zero_add] at h2
        rw [addr_add, h2]
        simp [vby]
      · omega)
    rw [hln] at this
    exact this
  have hnum : ((2 + n : Nat) : Int) = 2 + (n : Int) := by omega
  have hcl3 : 2 + n < cap → ∀ j (h : j < (l.drop (2 + n)).length), w1.cell? ((⟨g, 2 + n, none⟩ : Addr).add j) = some (vby (l.drop (2 + n))[j]) := fun _ j hj => by
    rw [hlen] at hj
    have h2 := HC.out (2 + n + j) (vby l[2 + n + j]) (by rw [List.getElem?_map, List.getElem?_eq_getElem (by omega)]; rfl)
    rw [addr_add, Nat.zero_add] at h2
    rw [addr_add, h2]
    simp
  have hcl0 : cap = 2 + n → ∀ j (h : j < (l.drop (2 + n)).length), w1.cell? ((⟨g, 0, none⟩ : Addr).add j) = some (vby (l.drop (2 + n))[j]) := fun he j hj => by
    rw [hlen] at hj
    omega
  have KEY := Lib.hid key
  have HCV := Lib.hid hcv
  clear key hcv hlen hnum HC
  rcases (by omega : cap = 2 ∨ (2 < cap ∧ cap = 2 + n) ∨ 2 + n < cap) with hc1 | ⟨hc2, hc3⟩ | hc4
  · have hn0 : n = 0 := by omega
    have K0 := KEY.out ⟨g, 0, none⟩ rfl (hcl0 (by omega))
    have C := HCV.out 0 0 (.inr hn0)
    clear hcl3 hcl0 KEY HCV
    subst hn0
    subst hc1
    have hl2 : l.length = 2 := by omega
    have hr2 : ((l.length - (2 + 0) : Nat) : Int) < 202 := by omega
    rw [show l.length - (2 + 0) = 0 by omega] at K0
    have K := Lib.hid K0
    clear K0
    go_wp2_with fail
    refine (K.out _ _).mono ?_
    rintro e w3 ⟨a', c', rfl, c3, f3, hRB, hB⟩
    have FR := Lib.hid hRB
    have FB := Lib.hid hB
    clear hRB hB
    go_wp2_with fail
    go_ret3
    exact ⟨rfl, FR.out, FB.out⟩
  · have K := Lib.hid (KEY.out ⟨g, 0, none⟩ rfl (hcl0 hc3))
    have C := HCV.out 2 n (.inl rfl)
    have hr2 : ((l.length - (2 + n) : Nat) : Int) < 202 := by omega
    have hcn : ¬ cap = 2 := by omega
    have hce : (cap : Int) = 2 + (n : Int) := by omega
    clear hcl3 hcl0 KEY HCV
    go_wp2_with fail
    refine (K.out _ _).mono ?_
    rintro e w3 ⟨a', c', rfl, c3, f3, hRB, hB⟩
    have FR := Lib.hid hRB
    have FB := Lib.hid hB
    clear hRB hB
    go_wp2_with fail
    go_ret3
    exact ⟨rfl, FR.out, FB.out⟩
  · have K := Lib.hid (KEY.out ⟨g, 2 + n, none⟩ rfl (hcl3 hc4))
    have C := HCV.out 2 (cap - 2) (.inl rfl)
    have hr2 : ((l.length - (2 + n) : Nat) : Int) < 202 := by omega
    have hci : 2 + (n : Int) < (cap : Int) := by omega
    have hcn : ¬ cap = 2 := by omega
    have hcm : ¬ cap = 2 + n := by omega
    clear hcl3 hcl0 KEY HCV
    go_wp2_with fail
    refine (K.out _ _).mono ?_
    rintro e w3 ⟨a', c', rfl, c3, f3, hRB, hB⟩
    have FR := Lib.hid hRB
    have FB := Lib.hid hB
    clear hRB hB
    go_wp2_with fail
    go_ret3
    exact ⟨rfl, FR.out, FB.out⟩
set_option maxHeartbeats 800000 in
theorem spoil_anyX (lo p : Nat) (l : List UInt8) (w : World) (hlo : lo ≤ w.heap.size) (h : RX w lo p l false) :
    Calls Try.prog 21 #[.pointer (some ⟨p, 0, none⟩)] w fun e w' => e = .returned (.tuple #[.string ⟨#[]⟩, .bool false, .int .i64 16]) ∧ RX w' lo p [] true ∧ Bx lo p w w' := by
  obtain ⟨v, hh, ho⟩ := h
  have HH := Lib.hid hh
  have c0 : w.cell? ⟨p, 0, none⟩ = some v := cell_of_row w p 0 _ _ _ hh
  have c1 : w.cell? ⟨p, 1, none⟩ = some (.bool false) := cell_of_row w p 1 _ _ _ hh
  have f0 := frozen_of_row w p 0 _ _ hh
  have f1 := frozen_of_row w p 1 _ _ hh
  clear hh ho
  go_enter Try.func21, Try.ntmps21
  go_wp2_with fail
  go_ret3
  have r1 : (w.setCell ⟨p, 0, none⟩ (.slice none 0 0)).heap[p]? = some (.cells #[.slice none 0 0, .bool false] 53 (0, 0)) := by
    rw [heap_setCell_same w p 0 _ _ _ HH.out]; rfl
  have r2 : ((w.setCell ⟨p, 0, none⟩ (.slice none 0 0)).setCell ⟨p, 1, none⟩ (.bool true)).heap[p]? = some (.cells #[.slice none 0 0, .bool true] 53 (0, 0)) := by
    rw [heap_setCell_same _ p 1 _ _ _ r1]; rfl
  exact ⟨rfl, ⟨.slice none 0 0, r2, World.ownsRow_nil _ _ _ _⟩, ((Bx.refl lo p w).set _ _).set _ _⟩
set_option maxHeartbeats 1600000 in
theorem next_shortX (lo p : Nat) (l : List UInt8) (w : World) (h : RX w lo p l false) (hl : l.length < 2) :
    Calls Try.prog 12 #[.pointer (some ⟨p, 0, none⟩)] w fun e w' => e = .returned (.tuple #[.string ⟨#[]⟩, .bool false, .int .i64 0]) ∧ w = w' := by
  have H := Lib.hid h
  obtain ⟨v, hh, ho⟩ := h
  have c1 : w.cell? ⟨p, 1, none⟩ = some (.bool false) := cell_of_row w p 1 _ _ _ hh
  clear hh ho
  go_enter Try.func12, Try.ntmps12
  go_wp2_with fail
  refine (size_shortX lo p l false _ H.out hl).mono ?_
  rintro e w1 ⟨rfl, rfl⟩
  go_wp2_with fail
  refine (wait_any p _).mono ?_
  rintro e w1 ⟨rfl, rfl⟩
  go_wp2_with fail
  go_ret3
  exact ⟨rfl, rfl⟩
set_option maxHeartbeats 1600000 in
theorem next_badX (lo p : Nat) (w : World) (h : RX w lo p [] true) :
    Calls Try.prog 12 #[.pointer (some ⟨p, 0, none⟩)] w fun e w' => e = .returned (.tuple #[.string ⟨#[]⟩, .bool false, .int .i64 6]) ∧ w = w' := by
  have H := Lib.hid h
  obtain ⟨v, hh, ho⟩ := h
  have c1 : w.cell? ⟨p, 1, none⟩ = some (.bool true) := cell_of_row w p 1 _ _ _ hh
  clear hh ho
  go_enter Try.func12, Try.ntmps12
  go_wp2_with fail
  refine (size_shortX lo p [] true _ H.out (by decide)).mono ?_
  rintro e w1 ⟨rfl, rfl⟩
  go_wp2_with fail
  refine (refuse_any p _).mono ?_
  rintro e w1 ⟨rfl, rfl⟩
  go_wp2_with fail
  go_ret3
  exact ⟨rfl, rfl⟩
set_option maxHeartbeats 1600000 in
theorem next_waitX (lo p : Nat) (l : List UInt8) (n : Nat) (w : World) (h : RX w lo p l false) (hl : 2 ≤ l.length) (hmax : l.length ≤ 1048576) (hn : Hid (M.val (l.take 2) = n)) (h200 : (n : Int) ≤ 200) (hlt : (l.length : Int) < 2 + (n : Int)) :
    Calls Try.prog 12 #[.pointer (some ⟨p, 0, none⟩)] w fun e w' => e = .returned (.tuple #[.string ⟨#[]⟩, .bool false, .int .i64 0]) ∧ RX w' lo p l false ∧ Below w.heap.size w w' := by
  have H := Lib.hid h
  clear h
  go_enter Try.func12, Try.ntmps12
  go_wp2_with fail
  refine (size_longX lo p l false _ n H.out hl (by omega) hn).mono ?_
  rintro e w1 ⟨rfl, b1⟩
  have H1 := Lib.hid (H.out.below b1)
  have B1 := Lib.hid b1
  clear b1
  obtain ⟨a, c, c0, c1⟩ := H1.out.cells
  go_wp2_with fail
  refine (wait_any p _).mono ?_
  rintro e w2 ⟨rfl, rfl⟩
  go_wp2_with fail
  go_ret3
  exact ⟨rfl, H1.out, B1.out⟩
set_option maxHeartbeats 1600000 in
theorem next_spoilX (lo p : Nat) (l : List UInt8) (n : Nat) (w : World) (hlo : lo ≤ w.heap.size) (h : RX w lo p l false) (hl : 2 ≤ l.length) (hmax : l.length ≤ 70368744177664) (hn : Hid (M.val (l.take 2) = n)) (h200 : 200 < (n : Int)) :
    Calls Try.prog 12 #[.pointer (some ⟨p, 0, none⟩)] w fun e w' => e = .returned (.tuple #[.string ⟨#[]⟩, .bool false, .int .i64 16]) ∧ RX w' lo p [] true ∧ Bx lo p w w' := by
  have H := Lib.hid h
  clear h
  go_enter Try.func12, Try.ntmps12
  go_wp2_with fail
  refine (size_longX lo p l false _ n H.out hl (by omega) hn).mono ?_
  rintro e w1 ⟨rfl, b1⟩
  have H1 := Lib.hid (H.out.below b1)
  have B1 := Lib.hid (Bx.of (p := p) b1 hlo)
  have hlo1 : lo ≤ w1.heap.size := Nat.le_trans hlo b1.size
  clear b1
  obtain ⟨a, c, c0, c1⟩ := H1.out.cells
  go_wp2_with fail
  refine (spoil_anyX lo p l _ hlo1 H1.out).mono ?_
  rintro e w2 ⟨rfl, h2, b2⟩
  have H2 := Lib.hid h2
  have B2 := Lib.hid (B1.out.trans b2)
  clear h2 b2
  go_wp2_with fail
  go_ret3
  exact ⟨rfl, H2.out, B2.out⟩
set_option maxHeartbeats 1600000 in
theorem next_tellX (lo p : Nat) (l : List UInt8) (n : Nat) (t : ByteArray) (w : World) (ht : Hid (Str ((l.drop 2).take n) = t)) (hlo : lo ≤ w.heap.size) (h : RX w lo p l false) (hl : 2 + n ≤ l.length) (hmax : l.length ≤ 1048576) (hrest : l.length < 2 + n + 202) (hn : Hid (M.val (l.take 2) = n)) (h200 : (n : Int) ≤ 200) :
    Calls Try.prog 12 #[.pointer (some ⟨p, 0, none⟩)] w fun e w' => e = .returned (.tuple #[.string t, .bool true, .int .i64 0]) ∧ RX w' lo p (l.drop (2 + n)) false ∧ Bx lo p w w' := by
  have H := Lib.hid h
  clear h
  have hli : 2 + (n : Int) ≤ (l.length : Int) := by omega
  go_enter Try.func12, Try.ntmps12
  go_wp2_with fail
  refine (size_longX lo p l false _ n H.out (by omega) (by omega) hn).mono ?_
  rintro e w1 ⟨rfl, b1⟩
  have H1 := Lib.hid (H.out.below b1)
  have B1 := Lib.hid (Bx.of (p := p) b1 hlo)
  have hlo1 : lo ≤ w1.heap.size := Nat.le_trans hlo b1.size
  clear b1
  obtain ⟨a, c, c0, c1⟩ := H1.out.cells
  go_wp2_with fail
  refine (tell_anyX lo p l n _ hlo1 H1.out hn hl hmax hrest).mono ?_
  rw [ht.out]
  rintro e w2 ⟨rfl, h2, b2⟩
  have H2 := Lib.hid h2
  have B2 := Lib.hid (B1.out.trans b2)
  clear h2 b2
  go_wp2_with fail
  go_ret3
  exact ⟨rfl, H2.out, B2.out⟩
set_option maxHeartbeats 800000 in
theorem rest_anyX (lo p : Nat) (l : List UInt8) (bad : Bool) (w : World) (h : RX w lo p l bad) :
    Calls Try.prog 14 #[.pointer (some ⟨p, 0, none⟩)] w fun e w' => e = .returned (.int .i64 (l.length : Int)) ∧ w = w' := by
  obtain ⟨a, c, c0, c1⟩ := h.cells
  clear h
  go_enter Try.func14, Try.ntmps14
  go_wp2_with fail
  go_ret
  exact ⟨rfl, rfl⟩
set_option maxHeartbeats 800000 in
theorem bad_anyX (lo p : Nat) (l : List UInt8) (bad : Bool) (w : World) (h : RX w lo p l bad) :
    Calls Try.prog 15 #[.pointer (some ⟨p, 0, none⟩)] w fun e w' => e = .returned (.bool bad) ∧ w = w' := by
  obtain ⟨a, c, c0, c1⟩ := h.cells
  clear h
  go_enter Try.func15, Try.ntmps15
  go_wp2_with fail
  go_ret
  exact ⟨rfl, rfl⟩
end Go.Proofs.Ytnbljpdfmomjjaa
