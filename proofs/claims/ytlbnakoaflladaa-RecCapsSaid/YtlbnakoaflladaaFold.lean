/-
  label.Fold.
-/
import Derived.Test.YtlbnakoaflladaaRight
namespace Go.Proofs.Ytlbnakoaflladaa
open Go.RowKit
set_option linter.unusedVariables false

def lowR (r : Nat) : Nat := if 65 ≤ r ∧ r ≤ 90 then r + 32 else r
def lowB (c : UInt8) : UInt8 := UInt8.ofNat (lowR c.toNat)
theorem lowR_le (r : Nat) (h : r ≤ 1114111) : lowR r ≤ 1114111 := by unfold lowR; split <;> omega
theorem lowR_up (r : Nat) (h : upR r = true) : lowR r = r + 32 := by unfold upR at h; simp at h; unfold lowR; rw [if_pos h]
theorem lowR_no (r : Nat) (h : upR r = false) : lowR r = r := by unfold upR at h; simp at h; unfold lowR; rw [if_neg (by omega)]
theorem lowB_toNat (c : UInt8) : (lowB c).toNat = lowR c.toNat := by
  unfold lowB
  rw [UInt8.toNat_ofNat', Nat.mod_eq_of_lt]
  have := c.toNat_lt
  unfold lowR; split <;> omega
theorem lowB_great (c : UInt8) (h : 128 ≤ c.toNat) : lowB c = c := by
  apply UInt8.toNat_inj.1
  rw [lowB_toNat]; unfold lowR; rw [if_neg (by omega)]
/-- The runes of a label, made small and written. -/
theorem low_runes (l : List UInt8) : ∀ (a : List UInt8), (∀ r ∈ rs l, okR r = true) → ((rs l).map fun (r : Nat) => ((lowR r : Nat) : Int)).foldl (fun b n => b ++ Utf8.encode n) (Str a) = Str (a ++ l.map lowB) := by
  induction l using runes_ind with
  | h0 => intro a _; simp [rs_nil]
  | h1 l hne ih =>
    intro a hok
    have hs := rs_step l hne
    rw [hs] at hok ⊢
    have h0 := hok (dR l) (by simp)
    have hr : ∀ r ∈ rs (l.drop (dW l)), okR r = true := fun r hr => hok r (by simp [hr])
    have hb := rune_bytes l hne
    have e : l.map lowB = (l.take (dW l)).map lowB ++ (l.drop (dW l)).map lowB := by rw [← List.map_append, List.take_append_drop]
    have key : (Utf8.encode ((lowR (dR l) : Nat) : Int)) = Str ((l.take (dW l)).map lowB) := by
      rcases hb with ⟨h1, h2, h3, h4⟩ | ⟨h1, h2⟩
      · have hlow : lowR (dR l) < 128 := by unfold lowR; split <;> omega
        rw [encode_ascii _ hlow, h2, h3]
        congr 1
        simp only [List.map_cons, List.map_nil]
        unfold lowB
        rw [UInt8.toNat_ofNat', Nat.mod_eq_of_lt (by omega)]
      · have hx : dR l < 2048 := by unfold okR at h0; simp at h0; omega
        have hlow : lowR (dR l) = dR l := by unfold lowR; rw [if_neg (by omega)]
        rw [hlow]
        apply eq_of_data
        rw [two_bytes l hne h1 hx, Str_list]
        symm
        calc (l.take (dW l)).map lowB = (l.take (dW l)).map id := List.map_congr_left (fun c hc => lowB_great c (h2 c hc))
          _ = l.take (dW l) := by simp
    rw [List.map_cons, List.foldl_cons, key, Str_append, Str_list, ih _ hr, e, List.append_assoc]
def foldB (s : ByteArray) : ByteArray := if rightB s = true then Str (s.data.toList.map lowB) else ⟨#[]⟩
theorem rgo_ok (L : List Nat) (c t : Nat) (h : rfin (rgo L c t) = true) : ∀ r ∈ L, okR r = true := by
  induction L generalizing c t with
  | nil => simp
  | cons x L ih =>
    rw [rgo] at h
    split at h
    · simp [rfin] at h
    · rename_i hn
      intro r hr
      rcases List.mem_cons.1 hr with rfl | hr
      · cases ho : okR r with
        | true => rfl
        | false => exact absurd (.inl ho) hn
      · exact ih _ _ h r hr
theorem right_all (s : ByteArray) (h : rightB s = true) : s.size ≤ 32 ∧ 1 ≤ s.size ∧ rfin (rgo (RS s 0) 0 0) = true := by
  unfold rightB at h
  rw [Bool.and_eq_true, decide_eq_true_eq] at h
  exact ⟨h.1.2, h.1.1, h.2⟩
theorem fold_bytes (s : ByteArray) (h : rightB s = true) : runesBytes ((RS s 0).map fun (r : Nat) => ((lowR r : Nat) : Int)) = Str (s.data.toList.map lowB) := by
  have := low_runes s.data.toList [] (rgo_ok _ _ _ (right_all s h).2.2)
  rw [List.nil_append] at this
  exact this
theorem info_i32 : (Try.prog.info? 21).map (fun i => (i.zero, i.size, i.bytes)) = some (some (.int .i32 0), 1, 4) := by kernel_rfl
theorem make16 (w : World) : (Instr.makeSlice 81 (.int .i64 0) (.int .i64 16)).run Try.prog w = .ok (.slice (some ⟨w.heap.size, 0, none⟩) 0 16) (w.alloc (.cells (madeCells (Value.int .i32 0).cells 16) 21)) := by
  obtain ⟨i0, hi, hz0, hz1, hz2⟩ := info_parts info_i32
  have := run_make (P := Try.prog) w 81 21 i0 (.int .i32 0) Try.underlying81 hi hz0 .i64 .i64 0 16 (by omega) (by omega) (by rw [hz2]; omega) (by omega)
  rw [this, hz1]
  rfl
set_option maxHeartbeats 400000 in
theorem fold_no (s : ByteArray) (w : World) (hs : s.size ≤ 140737488351232) (h : rightB s = false) :
    Calls Try.prog 28 #[.string s] w fun e w' => e = .returned (.tuple #[.string ⟨#[]⟩, .bool false]) ∧ Below w.heap.size w w' := by
  have H := Lib.hid h
  clear h
  go_enter Try.func28, Try.ntmps28
  go_wp2_with fail
  refine (right_any _ _ hs).mono ?_
  rw [H.out]
  rintro e w1 ⟨rfl, bb⟩
  go_wp2_with fail
  go_ret2
  exact ⟨rfl, bb⟩
set_option maxHeartbeats 1600000 in
theorem fold_yes (s : ByteArray) (w : World) (h : rightB s = true) :
    Calls Try.prog 28 #[.string s] w fun e w' => e = .returned (.tuple #[.string (Str (s.data.toList.map lowB)), .bool true]) ∧ Below w.heap.size w w' := by
  have hs := (right_all s h).1
  have FB := Lib.hid (fold_bytes s h)
  generalize Str (s.data.toList.map lowB) = out at *
  have H := Lib.hid h
  clear h
  obtain ⟨i0, hi, hz0, hz1, hz2⟩ := info_parts info_i32
  have hmk := make16
  go_enter Try.func28, Try.ntmps28
  go_wp2_with fail
  refine (right_any _ _ (by omega)).mono ?_
  rw [H.out]
  rintro e w1 ⟨rfl, bb⟩
  have hM := Lib.hid (World.ownsRow_made (base := w1.heap.size) (size := 1) (e := 21) w1 (madeCells (Value.int .i32 0).cells 16) 16 (Nat.le_refl _) (by unfold maxLen; omega) (by rw [size_madeCells]))
  go_wp2_with fail
  go_loopw [4, 6, 13] (fun v _ _ wr => ∃ (k : Nat) (L : List Nat), k ≤ s.size ∧ L.length ≤ k ∧ Hid (L ++ (RS s k).map lowR = (RS s 0).map lowR) ∧ wr.ownsRow w1.heap.size 21 1 v L.length (L.map fun n => .int .i32 ((n : Nat) : Int)) ∧ wr.heap[w1.heap.size + 1]? = some (.stringIter s k) ∧ Below w1.heap.size w1 wr) (fun _ _ _ wr => s.size - wr.iterPos (w1.heap.size + 1))
  case atStart =>
    have h1 := World.iter_heap (w1.alloc (.cells (madeCells #[.int .i32 0] 16) 21)) s 0
    rw [show (w1.alloc (.cells (madeCells #[.int .i32 0] 16) 21)).heap.size = w1.heap.size + 1 by simp] at h1
    exact ⟨0, [], by omega, Nat.le_refl _, Lib.hid rfl, hM.out.alloc _, h1, ((Below.refl _ _).alloc (Nat.le_refl _) _).alloc (by simp) _⟩
  case round =>
    obtain ⟨k, L, hk, hL, hA, hown, hit, hbw⟩ := hrel
    have IT := Lib.hid hit
    have hsz : w1.heap.size + 1 < wr.heap.size := (Array.getElem?_eq_some_iff.1 hit).1
    clear hit
    by_cases hlt : k < s.size
    · have hnext := fun ty => next_rune wr (w1.heap.size + 1) s k ty IT.out hlt
      have it2 := Lib.hid (Lib.iterAt_heap wr (w1.heap.size + 1) s k (k + sW s k) IT.out)
      have hown2 := own_iterAt hown IT.out (k + sW s k)
      have hbw2 : Below w1.heap.size w1 (wr.iterAt (w1.heap.size + 1) s (k + sW s k)) := Lib.below_iterAt hbw (by omega) s _
      have hsz2 : w1.heap.size + 1 < (wr.iterAt (w1.heap.size + 1) s (k + sW s k)).heap.size := by rw [Lib.iterAt_size]; exact hsz
      have IP := Lib.hid (iterPos_of IT.out)
      have hW := sW_le s k hlt
      have hW1 := sW_pos s k
      have hst := RS_step s k hlt
      have hx := sR_le s k
      generalize sR s k = x at *
      have NX : Hid (L ++ [lowR x] ++ (RS s (k + sW s k)).map lowR = (RS s 0).map lowR) := Lib.hid (by have := hA.out; rw [hst, List.map_cons] at this; rw [← this]; simp)
      generalize sW s k = y at *
      clear hown hbw hst
      have OWN := Lib.hid hown2
      clear hown2
      generalize hg : wr.iterAt (w1.heap.size + 1) s (k + y) = wi at *
      have G := Lib.hid hg
      clear hg
      have fin : ∀ (v' : Value) (w' : World), w'.ownsRow w1.heap.size 21 1 v' (L.length + 1) ((L.map fun n => Value.int .i32 ((n : Nat) : Int)) ++ [.int .i32 ((lowR x : Nat) : Int)]) → Hid (w'.ownsRow w1.heap.size 21 1 v' (L ++ [lowR x]).length ((L ++ [lowR x]).map fun n => .int .i32 ((n : Nat) : Int))) := fun v' w' h => Lib.hid (by simpa using h)
      have FIN := Lib.hid fin
      clear fin
      rcases Bool.eq_false_or_eq_true (upR x) with hu | hu
      · have hlow := lowR_up x hu
        have hxle : x ≤ 90 := by unfold upR at hu; simp at hu; omega
        rw [hlow] at NX FIN
        have HU := Lib.hid hu
        clear hu hlow
        go_wp2_with fail
        refine (upper_is _ true _ hx HU.out).mono ?_
        rintro e w9 ⟨rfl, rfl⟩
        go_wp2_with (at_builtin; refine wpList_append_own _ rfl _ _ 81 rfl w1.heap.size 21 i0 (.int .i32 0) 1 4 Try.underlying81 hi hz0 hz1 hz2 rfl (by decide) _ _ _ rfl (OWN.out.alloc _) ⟨wi.heap.size, 0, none⟩ 1 1 [.int .i32 ((x : Int) + 32)] rfl rfl ?c1 ?c2 ?c3 ?c4 ?c5 ?_)
        case c1 =>
          intro j u hj
          match j, hj with
          | 0, hj => simp at hj; subst hj; simp [Addr.add]
        case c2 => intro u hu; simp at hu; subst hu; rfl
        case c3 => unfold maxLen; omega
        case c4 => omega
        case c5 => simp; omega
        · intro v' w' hown' hgrow _
          have R := FIN.out v' w' (by simpa using hown')
          have hb2 : Below w1.heap.size w1 w' := (hbw2.alloc (by omega) _).grown hgrow (by simp; omega) (fun g hg => (OWN.out.lt g hg).1)
          have it3 : Hid (w'.heap[w1.heap.size + 1]? = some (.stringIter s (k + y))) :=
            iter_kept (OWN.out.alloc _) hgrow ((Below.heap_alloc wi _ _ hsz2).trans it2.out)
          clear hown' hgrow hbw2
          go_wp2_with fail
          go_roundw
          case rel => exact ⟨k + y, L ++ [x + 32], hW, by simp; omega, NX, R.out, it3.out, hb2⟩
          case measure => rw [IP.out, iterPos_of it3.out]; omega
      · have hlow := lowR_no x hu
        rw [hlow] at NX FIN
        have HU := Lib.hid hu
        clear hu hlow
        go_wp2_with fail
        refine (upper_is _ false _ hx HU.out).mono ?_
        rintro e w9 ⟨rfl, rfl⟩
        go_wp2_with (at_builtin; refine wpList_append_own _ rfl _ _ 81 rfl w1.heap.size 21 i0 (.int .i32 0) 1 4 Try.underlying81 hi hz0 hz1 hz2 rfl (by decide) _ _ _ rfl (OWN.out.alloc _) ⟨wi.heap.size, 0, none⟩ 1 1 [.int .i32 (x : Int)] rfl rfl ?c1 ?c2 ?c3 ?c4 ?c5 ?_)
        case c1 =>
          intro j u hj
          match j, hj with
          | 0, hj => simp at hj; subst hj; simp [Addr.add]
        case c2 => intro u hu; simp at hu; subst hu; rfl
        case c3 => unfold maxLen; omega
        case c4 => omega
        case c5 => simp; omega
        · intro v' w' hown' hgrow _
          have R := FIN.out v' w' (by simpa using hown')
          have hb2 : Below w1.heap.size w1 w' := (hbw2.alloc (by omega) _).grown hgrow (by simp; omega) (fun g hg => (OWN.out.lt g hg).1)
          have it3 : Hid (w'.heap[w1.heap.size + 1]? = some (.stringIter s (k + y))) :=
            iter_kept (OWN.out.alloc _) hgrow ((Below.heap_alloc wi _ _ hsz2).trans it2.out)
          clear hown' hgrow hbw2
          go_wp2_with fail
          go_roundw
          case rel => exact ⟨k + y, L ++ [x], hW, by simp; omega, NX, R.out, it3.out, hb2⟩
          case measure => rw [IP.out, iterPos_of it3.out]; omega
    · have hconv := conv_runes_own (L.map fun (n : Nat) => (n : Int)) (w := wr) (base := w1.heap.size) (n := L.length) (by
        rw [List.map_map]; exact hown)
      have e : L.map (fun (n : Nat) => (n : Int)) = (RS s 0).map fun (r : Nat) => ((lowR r : Nat) : Int) := by
        have := hA.out
        rw [RS_end s k (by omega)] at this
        simp only [List.map_nil, List.append_nil] at this
        rw [this, List.map_map]
        rfl
      rw [e, FB.out] at hconv
      have hend := fun ty => Lib.run_next_end_at (P := Try.prog) wr (w1.heap.size + 1) s k ty IT.out (by omega)
      have OW := Lib.hid hown
      clear hown e
      go_wp2_with fail
      go_ret2
      exact ⟨rfl, chain bb hbw⟩
theorem fold_any (s : ByteArray) (w : World) (hs : s.size ≤ 140737488351232) :
    Calls Try.prog 28 #[.string s] w fun e w' => e = .returned (.tuple #[.string (foldB s), .bool (rightB s)]) ∧ Below w.heap.size w w' := by
  cases h : rightB s
  · have e : foldB s = ⟨#[]⟩ := by unfold foldB; rw [h]; rfl
    rw [e]; exact fold_no s w hs h
  · have e : foldB s = Str (s.data.toList.map lowB) := by unfold foldB; rw [h]; rfl
    rw [e]; exact fold_yes s w h
end Go.Proofs.Ytlbnakoaflladaa
