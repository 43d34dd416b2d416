/-
  The reader: Clone, tell, spoil, wait, refuse, Next.
-/
import Derived.Test.YtnbljpdfmomjjaaFrRead
import Derived.Lib.LazyBuf
import Derived.Outline
namespace Go.Proofs.Ytnbljpdfmomjjaa
open Go.RowKit
set_option linter.unusedVariables false

theorem own_base {w : World} {base base' : Nat} {e : TypeId} {v : Value} {n : Nat} {xs : List Value} (h : w.ownsRow base e 1 v n xs) (hb : base' ≤ base) : w.ownsRow base' e 1 v n xs := by
  refine ⟨h.1, ?_⟩
  rcases h.2 with h | ⟨g, cap, cur, hv, hbg, r⟩
  · exact .inl h
  · exact .inr ⟨g, cap, cur, hv, Nat.le_trans hb hbg, r⟩
set_option maxHeartbeats 800000 in
theorem clone_any (A : Addr) (l : List UInt8) (k cap : Nat) (w : World) (hk : l.length = k) (hc : ∀ j (h : j < l.length), w.cell? (A.add j) = some (vby l[j])) (hz : l.length ≤ 1048576) :
    Calls Try.prog 27 #[.slice (some A) k cap] w fun e w' => ∃ v, e = .returned v ∧ w'.ownsRow w.heap.size 5 1 v k (l.map vby) ∧ Below w.heap.size w w' := by
  subst hk
  obtain ⟨i0, hi, hz0, hz1, hz2⟩ := info_parts info_byte
  have hown0 := Lib.hid (World.ownsRow_made (base := w.heap.size) (e := 5) (size := 1) w #[] 0 (Nat.le_refl _) (by unfold maxLen; omega) rfl)
  have HC := Lib.hid hc
  go_enter Try.func27, Try.ntmps27
  have heq : (binOp .eql 45 (.slice (some A) l.length cap) (.slice none 0 0)).run Try.prog w = .ok (.bool false) w := run_eql_slice_nil w 45 5 (some A) l.length cap Try.underlying45
  have hA : A.block < w.heap.size ∨ l = [] := by
    rcases Nat.eq_zero_or_pos l.length with h | h
    · exact .inr (List.eq_nil_of_length_eq_zero h)
    · left
      have := hc 0 h
      unfold World.cell? at this
      have hb : (A.add 0).block = A.block := by unfold Addr.add; split <;> rfl
      rw [hb] at this
      cases hq : w.heap[A.block]? with
      | none => simp [hq] at this
      | some o => exact (Array.getElem?_eq_some_iff.1 hq).1
  have hb0 : Below w.heap.size w (w.alloc (.cells #[] 5)) := (Below.refl _ _).alloc (Nat.le_refl _) _
  clear hc
  go_wp2_with (at_builtin; go_loud (refine wpList_append_own _ rfl (.tmp 5) (.tmp 6) 45 rfl w.heap.size 5 i0 (.int .u8 0) 1 1 Try.underlying45 hi hz0 hz1 hz2 rfl (by decide) (.slice (some ⟨w.heap.size, 0, none⟩) 0 0) 0 [] rfl hown0.out A l.length cap (l.map vby) rfl (by rw [List.length_map, Nat.mul_one]) ?c1 ?c2 ?c3 ?c4 ?c5 ?_))
  case c1 =>
    intro j u hj
    rw [List.getElem?_map] at hj
    cases hq : l[j]? with
    | none => rw [hq] at hj; cases hj
    | some x =>
      rw [hq] at hj
      obtain ⟨hj', rfl⟩ := List.getElem?_eq_some_iff.1 hq
      have hb : (A.add j).block = A.block := by unfold Addr.add; split <;> rfl
      rw [hb0.cell (by
        rw [hb]
        rcases hA with h | h
        · exact h
        · subst h; simp at hj'), HC.out j hj']
      exact hj
  case c2 =>
    intro u hu
    obtain ⟨x, _, rfl⟩ := List.mem_map.1 hu
    rfl
  case c3 => unfold maxLen; omega
  case c4 => omega
  case c5 => simp
  intro v' w2 hown hgrow _
  have bl : Hid (Below w.heap.size w w2) := Lib.hid (hb0.grown hgrow (by simp) (fun g hg => by cases hg; exact Nat.le_refl _))
  have HO := Lib.hid hown
  clear hown hgrow hb0
  go_wp2_with fail
  go_ret
  exact ⟨v', rfl, HO.out, bl.out⟩
set_option maxHeartbeats 1600000 in
set_option maxRecDepth 20000 in
theorem tell_any (lo p : Nat) (l : List UInt8) (n : Nat) (w : World) (hlo : lo ≤ w.heap.size) (h : RB w lo p l false) (hn : Hid (M.val (l.take 2) = n)) (hl : 2 + n ≤ l.length) (hmax : l.length ≤ 1048576) (hrest : l.length < 2 + n + 202) :
    Calls Try.prog 22 #[.pointer (some ⟨p, 0, none⟩)] w fun e w' => e = .returned (.tuple #[.string (Str ((l.drop 2).take n)), .bool true, .int .i64 0]) ∧ RB w' lo p (l.drop (2 + n)) false ∧ Below lo w w' := by
  go_enter Try.func22, Try.ntmps22
  go_wp2_with fail
  refine (size_long lo p l false _ n h (by omega) (by omega) hn).mono ?_
  rintro e w1 ⟨rfl, b1⟩
  have h1 := h.below b1
  have bw : Below lo w w1 := b1.mono hlo
  clear h b1
  obtain ⟨h0, v, hh, ho⟩ := h1
  rcases own_cells ho with ⟨rfl, hx⟩ | ⟨g, cap, hv, hvl, hc⟩
  · have : l = [] := by simpa using hx
    subst this
    simp at hl
  rw [List.length_map] at hv
  subst hv
  have hcap := own_cap ho
  have c0 : w1.cell? ⟨p, 0, none⟩ = some (.slice (some ⟨g, 0, none⟩) l.length cap) := cell_of_row w1 p 0 _ _ _ hh
  have f0 := frozen_of_row w1 p 0 _ _ hh
  have i1 : 2 + (n : Int) ≤ (l.length : Int) := by omega
  have i2 : (l.length : Int) ≤ (cap : Int) := by omega
  have i3 : (cap : Int) ≤ 9223372036854775807 := by have := hcap.2; unfold maxLen at this; omega
  have i4 : (n : Int) ≤ 1048576 := by omega
  have HH := Lib.hid hh
  have HC := Lib.hid hc
  have HO := Lib.hid ho
  clear hh ho hc hvl
  have hgp : g ≠ p := fun e => own_apart HO.out HH.out (by rw [e]; rfl)
  have hlen : (l.drop (2 + n)).length = l.length - (2 + n) := by simp
  have key : ∀ A : Addr, A.block = g → (∀ j (h : j < (l.drop (2 + n)).length), w1.cell? (A.add j) = some (vby (l.drop (2 + n))[j])) → ∀ v0 cap', 
      Calls Try.prog 27 #[.slice (some A) (l.length - (2 + n)) cap'] (w1.setCell ⟨p, 0, none⟩ v0) fun e w' => ∃ a' c', e = .returned (.slice a' (l.length - (2 + n)) c') ∧ w'.cell? ⟨p, 0, none⟩ = some v0 ∧ w'.frozen? ⟨p, 0, none⟩ = false ∧ RB (w'.setCell ⟨p, 0, none⟩ (.slice a' (l.length - (2 + n)) c')) lo p (l.drop (2 + n)) false ∧ Below lo w (w'.setCell ⟨p, 0, none⟩ (.slice a' (l.length - (2 + n)) c')) := fun A hA hcl v0 cap' => by
    have hcl2 : ∀ j (h : j < (l.drop (2 + n)).length), (w1.setCell ⟨p, 0, none⟩ v0).cell? (A.add j) = some (vby (l.drop (2 + n))[j]) := fun j hj => by
      rw [World.cell?_setCell_other _ _ _ _ (by
        intro he
        have hb : (A.add j).block = A.block := by unfold Addr.add; split <;> rfl
        have := congrArg Addr.block he
        rw [hb, hA] at this
        exact hgp (by simpa using this.symm))]
      exact hcl j hj
    refine (clone_any A (l.drop (2 + n)) (l.length - (2 + n)) cap' _ hlen hcl2 (by rw [hlen]; omega)).mono ?_
    rintro e w3 ⟨v', rfl, hown, b3⟩
    have hsz : (w1.setCell ⟨p, 0, none⟩ v0).heap.size = w1.heap.size := by simp [World.setCell]
    have hp1 : p < w1.heap.size := (Array.getElem?_eq_some_iff.1 HH.out).1
    have hh3 : w3.heap[p]? = some (.cells #[v0, .bool false] 53 (0, 0)) := by
      rw [b3.block p (by rw [hsz]; exact hp1), heap_setCell_same w1 p 0 _ _ _ HH.out]
      rfl
    obtain ⟨a', c', rfl⟩ := own_shape hown
    rw [hsz] at hown
    have hlo1 : lo ≤ w1.heap.size := Nat.le_trans hlo bw.size
    rw [← hlen] at hown ⊢
    refine ⟨a', c', rfl, cell_of_row w3 p 0 _ _ _ hh3, frozen_of_row w3 p 0 _ _ hh3, RB.put h0 hh3 (own_base hown hlo1), ?_⟩
    exact ((bw.setCell h0 _).trans (b3.mono (by rw [hsz]; exact hlo1))).setCell h0 _
  have hcv : ∀ o cap', (o = 2 ∨ n = 0) → (convert 45 9 (.slice (some ⟨g, o, none⟩) n cap')).run Try.prog w1 = .ok (.string (Str ((l.drop 2).take n))) w1 := fun o cap' ho => by
    have hln : ((l.drop 2).take n).length = n := by simp; omega
    have := run_convert_bytes_back (P := Try.prog) w1 45 9 5 ⟨g, o, none⟩ cap' ((l.drop 2).take n) Try.underlying45 Try.underlying5 Try.underlying9 (fun j hj => by
      rw [hln] at hj
      rcases ho with rfl | rfl
      · have h2 := HC.out (2 + j) (vby l[2 + j]) (by rw [List.getElem?_map, List.getElem?_eq_getElem (by omega)]; rfl)
        rw [addr_add, Nat.zero_add] at h2
        rw [addr_add, h2]
        simp [vby]
      · omega)
    rw [hln] at this
    exact this
  have hnum : ((2 + n : Nat) : Int) = 2 + (n : Int) := by omega
  have hcl3 : 2 + n < cap → ∀ j (h : j < (l.drop (2 + n)).length), w1.cell? ((⟨g, 2 + n, none⟩ : Addr).add j) = some (vby (l.drop (2 + n))[j]) := fun _ j hj => by
    rw [hlen] at hj
    have h2 := HC.out (2 + n + j) (vby l[2 + n + j]) (by rw [List.getElem?_map, List.getElem?_eq_getElem (by omega)]; rfl)
    rw [addr_add, Nat.zero_add] at h2
    rw [addr_add, h2]
    simp
  have hcl0 : cap = 2 + n → ∀ j (h : j < (l.drop (2 + n)).length), w1.cell? ((⟨g, 0, none⟩ : Addr).add j) = some (vby (l.drop (2 + n))[j]) := fun he j hj => by
    rw [hlen] at hj
    omega
  have KEY := Lib.hid key
  have HCV := Lib.hid hcv
  clear key hcv hlen hnum HC
  rcases (by omega : cap = 2 ∨ (2 < cap ∧ cap = 2 + n) ∨ 2 + n < cap) with hc1 | ⟨hc2, hc3⟩ | hc4
  · have hn0 : n = 0 := by omega
    have K0 := KEY.out ⟨g, 0, none⟩ rfl (hcl0 (by omega))
    have C := HCV.out 0 0 (.inr hn0)
    clear hcl3 hcl0 KEY HCV
    subst hn0
    subst hc1
    have hl2 : l.length = 2 := by omega
    have hr2 : ((l.length - (2 + 0) : Nat) : Int) < 202 := by omega
    rw [show l.length - (2 + 0) = 0 by omega] at K0
    have K := Lib.hid K0
    clear K0
    go_wp2_with fail
    refine (K.out _ _).mono ?_
    rintro e w3 ⟨a', c', rfl, c3, f3, hRB, hB⟩
    have FR := Lib.hid hRB
    have FB := Lib.hid hB
    clear hRB hB
    go_wp2_with fail
    go_ret3
    exact ⟨rfl, FR.out, FB.out⟩
  · have K := Lib.hid (KEY.out ⟨g, 0, none⟩ rfl (hcl0 hc3))
    have C := HCV.out 2 n (.inl rfl)
    have hr2 : ((l.length - (2 + n) : Nat) : Int) < 202 := by omega
    have hcn : ¬ cap = 2 := by omega
    have hce : (cap : Int) = 2 + (n : Int) := by omega
    clear hcl3 hcl0 KEY HCV
    go_wp2_with fail
    refine (K.out _ _).mono ?_
    rintro e w3 ⟨a', c', rfl, c3, f3, hRB, hB⟩
    have FR := Lib.hid hRB
    have FB := Lib.hid hB
    clear hRB hB
    go_wp2_with fail
    go_ret3
    exact ⟨rfl, FR.out, FB.out⟩
  · have K := Lib.hid (KEY.out ⟨g, 2 + n, none⟩ rfl (hcl3 hc4))
    have C := HCV.out 2 (cap - 2) (.inl rfl)
    have hr2 : ((l.length - (2 + n) : Nat) : Int) < 202 := by omega
    have hci : 2 + (n : Int) < (cap : Int) := by omega
    have hcn : ¬ cap = 2 := by omega
    have hcm : ¬ cap = 2 + n := by omega
    clear hcl3 hcl0 KEY HCV
    go_wp2_with fail
    refine (K.out _ _).mono ?_
    rintro e w3 ⟨a', c', rfl, c3, f3, hRB, hB⟩
    have FR := Lib.hid hRB
    have FB := Lib.hid hB
    clear hRB hB
    go_wp2_with fail
    go_ret3
    exact ⟨rfl, FR.out, FB.out⟩
end Go.Proofs.Ytnbljpdfmomjjaa
