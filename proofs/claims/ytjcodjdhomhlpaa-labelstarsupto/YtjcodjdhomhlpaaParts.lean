/-
  Parts: what stands between the points.
-/
import Derived.Test.YtjcodjdhomhlpaaFold
namespace Go.Proofs.Ytjcodjdhomhlpaa
open Go.RowKit
set_option linter.unusedVariables false

/-- The parts of these bytes, the first of which goes on from cur. -/
def spl : List UInt8 → List UInt8 → List (List UInt8)
  | [], cur => [cur]
  | c :: l, cur => if c = 46 then cur :: spl l [] else spl l (cur ++ [c])
theorem spl_ne (l cur : List UInt8) : spl l cur ≠ [] := by
  induction l generalizing cur with
  | nil => simp [spl]
  | cons c l ih => rw [spl]; split <;> simp [ih]
theorem spl_length (l cur : List UInt8) : (spl l cur).length ≤ l.length + 1 := by
  induction l generalizing cur with
  | nil => simp [spl]
  | cons c l ih =>
    rw [spl]
    split
    · have := ih []; simp; omega
    · have := ih (cur ++ [c]); simp; omega
theorem spl_skip (a l cur : List UInt8) (h : ∀ c ∈ a, c ≠ 46) : spl (a ++ l) cur = spl l (cur ++ a) := by
  induction a generalizing cur with
  | nil => simp
  | cons c a ih =>
    rw [List.cons_append, spl, if_neg (h c (by simp)), ih _ (fun d hd => h d (by simp [hd]))]
    simp
def partsL (s : ByteArray) : List ByteArray := (spl s.data.toList []).map Str
theorem partsL_pos (s : ByteArray) : 1 ≤ (partsL s).length := by
  unfold partsL
  rw [List.length_map]
  exact List.length_pos_iff.2 (spl_ne _ _)
theorem partsL_length (s : ByteArray) : (partsL s).length ≤ s.size + 1 := by
  unfold partsL
  rw [List.length_map]
  have := spl_length s.data.toList []
  rwa [size_list] at this
/-- Up to place k, with a part that begins at b, these parts are done. -/
def Cut (s : ByteArray) (k b : Nat) (L : List ByteArray) : Prop := b ≤ k ∧ L ++ (spl (s.data.toList.drop k) ((s.data.toList.drop b).take (k - b))).map Str = partsL s
theorem cut_start (s : ByteArray) : Cut s 0 0 [] := ⟨Nat.le_refl _, rfl⟩
theorem cut_length {s : ByteArray} {k b : Nat} {L : List ByteArray} (h : Cut s k b L) : L.length ≤ s.size := by
  have h1 := congrArg List.length h.2
  have h2 := List.length_pos_iff.2 (spl_ne (s.data.toList.drop k) ((s.data.toList.drop b).take (k - b)))
  have h3 := partsL_length s
  rw [List.length_append, List.length_map] at h1
  omega
theorem cut_skip {s : ByteArray} {k b n : Nat} {L : List ByteArray} (h : Cut s k b L) (hn : ∀ c ∈ (s.data.toList.drop k).take n, c ≠ 46) : Cut s (k + n) b L := by
  refine ⟨by have := h.1; omega, ?_⟩
  rw [← h.2]
  have e : s.data.toList.drop k = (s.data.toList.drop k).take n ++ s.data.toList.drop (k + n) := by
    rw [← List.drop_drop, List.take_append_drop]
  rw [e, spl_skip _ _ _ hn]
  congr 3
  have hb := h.1
  rw [show k + n - b = (k - b) + n by omega, List.take_add, List.drop_drop, show b + (k - b) = k by omega]
theorem cut_point {s : ByteArray} {k b : Nat} {L : List ByteArray} (h : Cut s k b L) (hk : k < s.size) (hc : (s[k]'hk).toNat = 46) : Cut s (k + 1) (k + 1) (L ++ [s.extract b k]) := by
  refine ⟨Nat.le_refl _, ?_⟩
  rw [← h.2]
  have hk' : k < s.data.toList.length := by simpa using hk
  have e : s.data.toList.drop k = 46 :: s.data.toList.drop (k + 1) := by
    rw [List.drop_eq_getElem_cons hk']
    congr 1
    apply UInt8.toNat_inj.1
    have : s.data.toList[k] = s[k]'hk := by simp [ByteArray.getElem_eq_getElem_data]
    rw [this, hc]
    rfl
  rw [e, spl, if_pos rfl]
  have e2 : s.extract b k = Str ((s.data.toList.drop b).take (k - b)) := by
    apply eq_of_data
    rw [extract_list, Str_list]
  simp [e2]
theorem cut_end {s : ByteArray} {k b : Nat} {L : List ByteArray} (h : Cut s k b L) (hk : s.size = k) : L ++ [s.extract b s.size] = partsL s := by
  have h2 := h.2
  rw [List.drop_eq_nil_of_le (by rw [size_list]; omega), spl] at h2
  rw [← h2]
  have e2 : s.extract b s.size = Str ((s.data.toList.drop b).take (k - b)) := by
    apply eq_of_data
    rw [extract_list, Str_list, hk]
  simp [e2]
/-- A row of texts of the call's own. -/
structure Texts (w : World) (base : Nat) (v : Value) (L : List ByteArray) (g cap : Nat) : Prop where
  v : v = .slice (some ⟨g, 0, none⟩) L.length cap
  len : L.length ≤ cap
  cap : cap ≤ maxLen
  lo : base ≤ g
  hi : g < w.heap.size
  cell : ∀ j (h : j < L.length), w.cell? ⟨g, j, none⟩ = some (.string L[j])
theorem Texts.of {w : World} {base : Nat} {v : Value} {L : List ByteArray} (h : w.ownsRow base 9 1 v L.length (L.map Value.string)) (hl : 1 ≤ L.length) : ∃ g cap, Texts w base v L g cap := by
  obtain ⟨h0, h1⟩ := h
  rcases h1 with ⟨_, h0⟩ | ⟨g, cap, cur, hv, hb, hh, hn, hc, hs, ht⟩
  · omega
  · refine ⟨g, cap, hv, hn, hc, hb, (Array.getElem?_eq_some_iff.1 hh).1, fun j hj => ?_⟩
    have hcell := World.ownsRow.cells (base := base) (e := 9) (size := 1) (v := v) (n := L.length) (xs := L.map Value.string) ⟨h0, .inr ⟨g, cap, cur, hv, hb, hh, hn, hc, hs, ht⟩⟩ (g := g) (by rw [hv]; rfl) j (.string L[j]) (by simp [List.getElem?_eq_getElem hj])
    rwa [addr_add, Nat.zero_add] at hcell
theorem Texts.below {w w' : World} {base : Nat} {v : Value} {L : List ByteArray} {g cap : Nat} (h : Texts w base v L g cap) (hb : Below w.heap.size w w') : Texts w' base v L g cap :=
  ⟨h.v, h.len, h.cap, h.lo, Nat.lt_of_lt_of_le h.hi hb.size, fun j hj => (hb.cell (p := ⟨g, j, none⟩) h.hi).trans (h.cell j hj)⟩
theorem info_str : (Try.prog.info? 9).map (fun i => (i.zero, i.size, i.bytes)) = some (some (.string ByteArray.empty), 1, 16) := by kernel_rfl
def SomeTexts (base : Nat) (L : List ByteArray) (e : Ending) (w : World) : Prop := ∃ g cap, e = .returned (.slice (some ⟨g, 0, none⟩) L.length cap) ∧ Texts w base (.slice (some ⟨g, 0, none⟩) L.length cap) L g cap
theorem some_texts {w : World} {base : Nat} {v : Value} {L M : List ByteArray} {x : ByteArray} (h : w.ownsRow base 9 1 v (L.length + 1) (L.map Value.string ++ [.string x])) (hM : L ++ [x] = M) : SomeTexts base M (.returned v) w := by
  subst hM
  obtain ⟨g, cap, ht⟩ := Texts.of (L := L ++ [x]) (w := w) (base := base) (v := v) (by simpa using h) (by simp)
  have hv := ht.v
  exact ⟨g, cap, by rw [hv], by rw [← hv]; exact ht⟩
set_option maxHeartbeats 1600000 in
theorem parts_any (s : ByteArray) (w : World) (hs : s.size ≤ 1048576) :
    Calls Try.prog 18 #[.string s] w fun e w' => SomeTexts w.heap.size (partsL s) e w' ∧ Below w.heap.size w w' := by
  obtain ⟨i0, hi, hz0, hz1, hz2⟩ := info_parts info_str
  go_enter Try.func18, Try.ntmps18
  go_wp2_with fail
  go_loopw [3, 4, 5, 6, 9] (fun v b _ _ _ wr => ∃ (k c : Nat) (L : List ByteArray), k ≤ s.size ∧ c ≤ k ∧ L.length ≤ s.size ∧ b = .int .i64 (c : Int) ∧ Hid (Cut s k c L) ∧ wr.ownsRow w.heap.size 9 1 v L.length (L.map Value.string) ∧ wr.heap[w.heap.size]? = some (.stringIter s k) ∧ Below w.heap.size w wr) (fun _ _ _ _ _ wr => s.size - wr.iterPos w.heap.size)
  case atStart => exact ⟨0, 0, [], by omega, by omega, by simp, rfl, Lib.hid (cut_start s), World.ownsRow_nil _ _ _ _, World.iter_heap _ _ _, (Below.refl _ _).alloc (Nat.le_refl _) _⟩
  case round =>
    obtain ⟨k, c, L, hk, hck, hL, rfl, hcut, hown, hit, hbw⟩ := hrel
    have IT := Lib.hid hit
    have hsz : w.heap.size < wr.heap.size := (Array.getElem?_eq_some_iff.1 hit).1
    clear hit
    by_cases hlt : k < s.size
    · have hnext := fun ty => next_rune wr w.heap.size s k ty IT.out hlt
      have it2 := Lib.hid (Lib.iterAt_heap wr w.heap.size s k (k + sW s k) IT.out)
      have hown2 := own_iterAt hown IT.out (k + sW s k)
      have hbw2 : Below w.heap.size w (wr.iterAt w.heap.size s (k + sW s k)) := Lib.below_iterAt hbw (Nat.le_refl _) s _
      have hsz2 : w.heap.size < (wr.iterAt w.heap.size s (k + sW s k)).heap.size := by rw [Lib.iterAt_size]; exact hsz
      have IP := Lib.hid (iterPos_of IT.out)
      have hW := sW_le s k hlt
      have hW1 := sW_pos s k
      have hx := sR_le s k
      have hrb := rune_bytes (s.data.toList.drop k) (drop_ne s k hlt)
      change (sR s k < 128 ∧ sW s k = 1 ∧ _ = [UInt8.ofNat (sR s k)] ∧ _ = sR s k) ∨ (128 ≤ sR s k ∧ ∀ c ∈ (s.data.toList.drop k).take (sW s k), 128 ≤ c.toNat) at hrb
      have hhead : ((s.data.toList.drop k).getD 0 0) = s[k]'hlt := by
        rw [Lib.getD_dropU, Nat.add_zero, List.getD_eq_getElem?_getD, List.getElem?_eq_getElem (by simpa using hlt)]
        simp [ByteArray.getElem_eq_getElem_data]
      clear hown hbw
      have OWN := Lib.hid hown2
      clear hown2
      by_cases hp : sR s k = 46
      · have hw1 : sW s k = 1 := by rcases hrb with ⟨_, h, _, _⟩ | ⟨h, _⟩; exact h; omega
        have hby : (s[k]'hlt).toNat = 46 := by rcases hrb with ⟨_, _, _, h⟩ | ⟨h, _⟩; (rw [hhead] at h; omega); omega
        have NX := Lib.hid (cut_point hcut.out hlt hby)
        have hLL := cut_length NX.out
        rw [List.length_append, List.length_singleton] at hLL
        rw [hw1] at hnext it2 OWN hbw2 hsz2 hW
        rw [hp] at hnext
        clear hrb hhead hby hp hw1 hW1 hx
        generalize hg : wr.iterAt w.heap.size s (k + 1) = wi at *
        have G := Lib.hid hg
        clear hg
        go_wp2_with (at_builtin; refine wpList_append_own _ rfl _ _ 28 rfl w.heap.size 9 i0 (.string ByteArray.empty) 1 16 Try.underlying28 hi hz0 hz1 hz2 rfl (by decide) _ _ _ rfl (OWN.out.alloc _) ⟨wi.heap.size, 0, none⟩ 1 1 [.string (s.extract c k)] rfl rfl ?c1 ?c2 ?c3 ?c4 ?c5 ?_)
        case c1 =>
          intro j u hj
          match j, hj with
          | 0, hj => simp at hj; subst hj; simp [Addr.add]
        case c2 => intro u hu; simp at hu; subst hu; rfl
        case c3 => unfold maxLen; omega
        case c4 => omega
        case c5 => simp; omega
        · intro v' w' hown' hgrow _
          have R : Hid (w'.ownsRow w.heap.size 9 1 v' (L ++ [s.extract c k]).length ((L ++ [s.extract c k]).map Value.string)) := Lib.hid (by simpa using hown')
          have hb2 : Below w.heap.size w w' := (hbw2.alloc (by omega) _).grown hgrow (by simp; omega) (fun g hg => (OWN.out.lt g hg).1)
          have it3 : Hid (w'.heap[w.heap.size]? = some (.stringIter s (k + 1))) :=
            iter_kept (OWN.out.alloc _) hgrow ((Below.heap_alloc wi _ _ hsz2).trans it2.out)
          clear hown' hgrow hbw2
          go_wp2_with fail
          go_roundw
          case rel => exact ⟨k + 1, k + 1, L ++ [s.extract c k], hW, by omega, by simp; omega, by go_num, NX, R.out, it3.out, hb2⟩
          case measure => rw [IP.out, iterPos_of it3.out]; omega
      · have NX := Lib.hid (cut_skip (n := sW s k) hcut.out (by
          intro d hd he
          rcases hrb with ⟨h1, h2, h3, h4⟩ | ⟨h1, h2⟩
          · rw [h2, h3] at hd
            simp only [List.mem_singleton] at hd
            have : d.toNat = sR s k := by rw [hd, UInt8.toNat_ofNat', Nat.mod_eq_of_lt (by omega)]
            rw [he] at this
            exact hp this.symm
          · have := h2 d hd
            rw [he] at this
            exact absurd this (by decide)))
        have hq : ((sR s k : Int) == 46) = false := by simp; omega
        clear hrb hhead hp
        go_wp2_with fail
        go_roundw
        case rel => exact ⟨k + sW s k, c, L, hW, by omega, hL, rfl, NX, OWN.out, it2.out, hbw2⟩
        case measure => rw [IP.out, iterPos_of it2.out]; omega
    · have hend := fun ty => Lib.run_next_end_at (P := Try.prog) wr w.heap.size s k ty IT.out (by omega)
      have E := Lib.hid (cut_end hcut.out (by omega))
      have OWN := Lib.hid hown
      clear hown
      go_wp2_with (at_builtin; refine wpList_append_own _ rfl _ _ 28 rfl w.heap.size 9 i0 (.string ByteArray.empty) 1 16 Try.underlying28 hi hz0 hz1 hz2 rfl (by decide) _ _ _ rfl (OWN.out.alloc _) ⟨wr.heap.size, 0, none⟩ 1 1 [.string (s.extract c s.size)] rfl rfl ?c1 ?c2 ?c3 ?c4 ?c5 ?_)
      case c1 =>
        intro j u hj
        match j, hj with
        | 0, hj => simp at hj; subst hj; simp [Addr.add]
      case c2 => intro u hu; simp at hu; subst hu; rfl
      case c3 => unfold maxLen; omega
      case c4 => omega
      case c5 => simp; omega
      · intro v' w' hown' hgrow _
        have R := Lib.hid (some_texts hown' E.out)
        have hb2 : Below w.heap.size w w' := (hbw.alloc (by omega) _).grown hgrow (by simp; omega) (fun g hg => (OWN.out.lt g hg).1)
        clear hown' hgrow hbw
        go_wp2_with fail
        go_ret
        exact ⟨R.out, hb2⟩
set_option maxHeartbeats 1600000 in
theorem refParts_any (s : ByteArray) (w : World) (hs : s.size ≤ 1048576) :
    Calls Try.prog 19 #[.string s] w fun e w' => SomeTexts w.heap.size (partsL s) e w' ∧ Below w.heap.size w w' := by
  obtain ⟨i0, hi, hz0, hz1, hz2⟩ := info_parts info_str
  go_enter Try.func19, Try.ntmps19
  go_wp2_with fail
  go_loopw [3, 4, 5] (fun v b i wr => ∃ (k c : Nat) (L : List ByteArray), k ≤ s.size ∧ c ≤ k ∧ L.length ≤ s.size ∧ b = .int .i64 (c : Int) ∧ i = .int .i64 (k : Int) ∧ Hid (Cut s k c L) ∧ wr.ownsRow w.heap.size 9 1 v L.length (L.map Value.string) ∧ Below w.heap.size w wr) (fun _ _ i _ => s.size - (intOf i).toNat)
  case atStart => exact ⟨0, 0, [], by omega, by omega, by simp, rfl, rfl, Lib.hid (cut_start s), World.ownsRow_nil _ _ _ _, Below.refl _ _⟩
  case round =>
    obtain ⟨k, c, L, hk, hck, hL, rfl, rfl, hcut, hown, hbw⟩ := hrel
    have hsz := hbw.size
    have OWN := Lib.hid hown
    clear hown
    by_cases hlt : k < s.size
    · have hli : (k : Int) < (s.size : Int) := by omega
      by_cases hp : (s[k]'hlt).toNat = 46
      · have NX := Lib.hid (cut_point hcut.out hlt hp)
        have hLL := cut_length NX.out
        rw [List.length_append, List.length_singleton] at hLL
        have hb : ((((s[k]'hlt).toNat : Nat) : Int) == 46) = true := by simp; omega
        clear hp
        go_wp2_with (at_builtin; refine wpList_append_own _ rfl _ _ 28 rfl w.heap.size 9 i0 (.string ByteArray.empty) 1 16 Try.underlying28 hi hz0 hz1 hz2 rfl (by decide) _ _ _ rfl (OWN.out.alloc _) ⟨wr.heap.size, 0, none⟩ 1 1 [.string (s.extract c k)] rfl rfl ?c1 ?c2 ?c3 ?c4 ?c5 ?_)
        case c1 =>
          intro j u hj
          match j, hj with
          | 0, hj => simp at hj; subst hj; simp [Addr.add]
        case c2 => intro u hu; simp at hu; subst hu; rfl
        case c3 => unfold maxLen; omega
        case c4 => omega
        case c5 => simp; omega
        · intro v' w' hown' hgrow _
          have R : Hid (w'.ownsRow w.heap.size 9 1 v' (L ++ [s.extract c k]).length ((L ++ [s.extract c k]).map Value.string)) := Lib.hid (by simpa using hown')
          have hb2 : Below w.heap.size w w' := (hbw.alloc (by omega) _).grown hgrow (by simp; omega) (fun g hg => (OWN.out.lt g hg).1)
          clear hown' hgrow hbw
          go_wp2_with fail
          go_roundw
          case rel => exact ⟨k + 1, k + 1, L ++ [s.extract c k], by omega, by omega, by simp; omega, by go_num, by go_num, NX, R.out, hb2⟩
          case measure => simp [intOf]; omega
      · have NX := Lib.hid (cut_skip (n := 1) hcut.out (by
          intro d hd he
          have hl : k < s.data.toList.length := by simpa using hlt
          rw [List.drop_eq_getElem_cons hl] at hd
          simp only [List.take_succ_cons, List.take_zero, List.mem_singleton] at hd
          have : s.data.toList[k] = s[k]'hlt := by simp [ByteArray.getElem_eq_getElem_data]
          rw [he, this] at hd
          exact hp (by rw [← hd]; rfl)))
        have hb : ((((s[k]'hlt).toNat : Nat) : Int) == 46) = false := by simp; omega
        clear hp
        go_wp2_with fail
        go_roundw
        case rel => exact ⟨k + 1, c, L, by omega, by omega, hL, rfl, by go_num, NX, OWN.out, hbw⟩
        case measure => simp [intOf]; omega
    · have E := Lib.hid (cut_end hcut.out (by omega))
      have hli : (s.size : Int) ≤ (k : Int) := by omega
      go_wp2_with (at_builtin; refine wpList_append_own _ rfl _ _ 28 rfl w.heap.size 9 i0 (.string ByteArray.empty) 1 16 Try.underlying28 hi hz0 hz1 hz2 rfl (by decide) _ _ _ rfl (OWN.out.alloc _) ⟨wr.heap.size, 0, none⟩ 1 1 [.string (s.extract c s.size)] rfl rfl ?c1 ?c2 ?c3 ?c4 ?c5 ?_)
      case c1 =>
        intro j u hj
        match j, hj with
        | 0, hj => simp at hj; subst hj; simp [Addr.add]
      case c2 => intro u hu; simp at hu; subst hu; rfl
      case c3 => unfold maxLen; omega
      case c4 => omega
      case c5 => simp; omega
      · intro v' w' hown' hgrow _
        have R := Lib.hid (some_texts hown' E.out)
        have hb2 : Below w.heap.size w w' := (hbw.alloc (by omega) _).grown hgrow (by simp; omega) (fun g hg => (OWN.out.lt g hg).1)
        clear hown' hgrow hbw
        go_wp2_with fail
        go_ret
        exact ⟨R.out, hb2⟩
end Go.Proofs.Ytjcodjdhomhlpaa
