/-
  A disk: Write, Sync, Fuse, Up, Size.
-/
import Derived.Test.YtbjmbndeaobbeaaDoorDisk
namespace Go.Proofs.YtbjmbndeaobbeaaDoor
open Go.RowKit
set_option linter.unusedVariables false
set_option linter.unusedSimpArgs false
theorem DkIn.turned {w w' : World} {d g m : Nat} {lv : Value} {st st' : DkS} (h : DkIn w d g m lv st) (hS : st'.S = st.S) (hL : st'.L = st.L) (hok : st'.Ok)
    (hc : w'.heap[d]? = some (.cells #[.slice (some ⟨g, 0, none⟩) st'.S.length st'.S.length, lv, .map (some m), .int .i64 st'.fuse, .bool st'.up] 52 (0, 0)))
    (ho : ∀ k, k ≠ d → w'.heap[k]? = w.heap[k]?) : DkIn w' d g m lv st' := by
  refine { cell := hc, secs := ?_, mp := ?_, loose := ?_, dg := h.dg, dm := h.dm, gm := h.gm, lvd := h.lvd, lvg := h.lvg, lvm := h.lvm, ok := hok }
  · rw [hS]; exact (ho g (Ne.symm h.dg)).trans h.secs
  · rw [hL]; exact h.mp.kept (ho m (Ne.symm h.dm))
  · rw [hL]; exact ownsRow_kept h.loose fun k hk => ho k fun e => h.lvd (by rw [hk, e])
theorem DkIn.setFuse {w : World} {d g m : Nat} {lv : Value} {st : DkS} (h : DkIn w d g m lv st) (f : Int) (h0 : -9223372036854775808 ≤ f) (h1 : f ≤ 9223372036854775807) : DkIn (w.setCell ⟨d, 3, none⟩ (.int .i64 f)) d g m lv { st with fuse := f } :=
  h.turned rfl rfl { h.ok with fuse0 := h0, fuse1 := h1 } (by rw [heap_setCell_same w d 3 _ _ _ h.cell]; rfl) fun k hk => heap_setCell_other _ _ k _ hk
theorem DkIn.setUp {w : World} {d g m : Nat} {lv : Value} {st : DkS} (h : DkIn w d g m lv st) (u : Bool) : DkIn (w.setCell ⟨d, 4, none⟩ (.bool u)) d g m lv { st with up := u } :=
  h.turned rfl rfl { h.ok with } (by rw [heap_setCell_same w d 4 _ _ _ h.cell]; rfl) fun k hk => heap_setCell_other _ _ k _ hk
theorem DkIn.setSec {w : World} {d g m : Nat} {lv : Value} {st : DkS} (h : DkIn w d g m lv st) (n : Nat) (l : List UInt8) (hl : l.length = 256) (hn : n < st.S.length) :
    DkIn (w.setRow g (By (st.S.set n l).flatten)) d g m lv { st with S := st.S.set n l } := by
  refine { cell := ?_, secs := h.secs.row _, mp := ?_, loose := ?_, dg := h.dg, dm := h.dm, gm := h.gm, lvd := h.lvd, lvg := h.lvg, lvm := h.lvm, ok := ?_ }
  · rw [setRow_other w g d _ h.dg]
    show _ = some (Obj.cells #[.slice (some ⟨g, 0, none⟩) (st.S.set n l).length (st.S.set n l).length, lv, .map (some m), .int .i64 st.fuse, .bool st.up] 52 (0, 0))
    rw [List.length_set]
    exact h.cell
  · exact h.mp.kept (setRow_other w g m _ (Ne.symm h.gm))
  · exact ownsRow_kept h.loose fun k hk => setRow_other w g k _ fun e => h.lvg (by rw [hk, e])
  · refine { lens := ?_, had := ?_, keys := h.ok.keys, few := ?_, least := ?_, fuse0 := h.ok.fuse0, fuse1 := h.ok.fuse1 }
    · intro s hs
      rcases List.mem_or_eq_of_mem_set hs with h1 | h1
      · exact h.ok.lens s h1
      · rw [h1]; exact hl
    · intro p hp
      have := h.ok.had p hp
      show p.1 < (st.S.set n l).length ∧ _
      rw [List.length_set]
      exact this
    · show (st.S.set n l).length ≤ 640
      rw [List.length_set]; exact h.ok.few
    · show 8 ≤ (st.S.set n l).length
      rw [List.length_set]; exact h.ok.least
theorem DkPost.same {w : World} {d : Nat} {st : DkS} {F : Nat → Prop} (h : Dk w d st F) : DkPost w d st F w := ⟨F, h, Frm.refl _ _, fun k hk => .inl hk⟩
theorem DkPost.trans {w w1 w2 : World} {d : Nat} {st1 st2 : DkS} {F F1 : Nat → Prop} (h1 : Frm F w w1) (hF : ∀ k, F1 k → F k ∨ w.heap.size ≤ k) (h2 : DkPost w1 d st2 F1 w2) : DkPost w d st2 F w2 := by
  obtain ⟨F2, k2, f2, s2⟩ := h2
  refine ⟨F2, k2, h1.trans f2 hF, fun k hk => ?_⟩
  rcases s2 k hk with hx | hx
  · exact hF k hx
  · exact .inr (Nat.le_trans h1.size hx)
theorem DkPost.below {w w2 : World} {d : Nat} {st : DkS} {F : Nat → Prop} (h : Dk w d st F) (hb : Below w.heap.size w w2) : DkPost w d st F w2 := ⟨F, h.below hb, Frm.of_below hb, fun k hk => .inl hk⟩
/-- A sector becomes loose. -/
def DkS.loosened (st : DkS) (n : Nat) : DkS := if st.L.any (fun p => p.1 == n) = true then st else { st with L := st.L ++ [(n, st.S.getD n [])] }
theorem loosen_any (w : World) (d : Nat) (st : DkS) (F : Nat → Prop) (h : Dk w d st F) (n : Nat) (hn : n < st.S.length) :
    Calls Tryd.prog 57 #[.pointer (some ⟨d, 0, none⟩), .int .i64 (n : Int)] w (Void (DkPost w d (st.loosened n) F)) := by
  by_cases ha : st.L.any (fun p => p.1 == n) = true
  · unfold DkS.loosened
    rw [if_pos ha]
    obtain ⟨p, hp, hpn⟩ := List.any_eq_true.1 ha
    have e : p = (n, p.2) := by rw [← eq_of_beq hpn]
    rw [e] at hp
    exact (loosen_old w d st F h n p.2 hp).mono fun e w' hw => ⟨hw.1, DkPost.below h hw.2⟩
  · unfold DkS.loosened
    rw [if_neg ha]
    have hf : ∀ p ∈ st.L, p.1 ≠ n := fun p hp hc => ha (List.any_eq_true.2 ⟨p, hp, by simp [hc]⟩)
    have := loosen_new w d st F h n hn hf
    rw [List.getD_eq_getElem?_getD, List.getElem?_eq_getElem hn]
    exact this
/-- What Write does, and answers. -/
def DkS.wrote (st : DkS) (n : Nat) (s : List UInt8) : DkS :=
  let st1 := { st with fuse := if 0 < st.fuse then st.fuse - 1 else st.fuse }
  let st2 := st1.loosened n
  { st2 with S := st2.S.set n s }
def DkS.write (st : DkS) (i : Int) (s : List UInt8) : DkS × Int :=
  if st.up = false then (st, 5)
  else if (decide (0 ≤ i) && decide (i < (st.S.length : Int)) && decide (s.length = 256)) = false then (st, 1)
  else if st.fuse = 0 then ({ st with up := false }, 5)
  else (st.wrote i.toNat s, 0)
theorem loosened_S (st : DkS) (n : Nat) : (st.loosened n).S = st.S := by unfold DkS.loosened; split <;> rfl
set_option maxHeartbeats 400000 in
theorem write_down (w : World) (d : Nat) (st : DkS) (F : Nat → Prop) (h : Dk w d st F) (i : Int) (s : ByteArray) (hu : st.up = false) :
    Calls Tryd.prog 45 #[.pointer (some ⟨d, 0, none⟩), .int .i64 i, .string s] w fun e w' => e = .returned (.int .i64 5) ∧ w = w' := by
  obtain ⟨g, m, lv, hi, he⟩ := h
  obtain ⟨_, _, _, _, c4⟩ := hi.cells
  rw [hu] at c4
  clear hi he hu
  go_enter Tryd.func45, Tryd.ntmps45
  go_wp2_with fail
  go_ret
  exact ⟨rfl, rfl⟩
set_option maxHeartbeats 800000 in
set_option maxRecDepth 20000 in
theorem write_arg (w : World) (d : Nat) (st : DkS) (F : Nat → Prop) (h : Dk w d st F) (i : Int) (s : ByteArray) (hu : st.up = true) (hc : (decide (0 ≤ i) && decide (i < (st.S.length : Int)) && decide (s.size = 256)) = false) :
    Calls Tryd.prog 45 #[.pointer (some ⟨d, 0, none⟩), .int .i64 i, .string s] w fun e w' => e = .returned (.int .i64 1) ∧ w = w' := by
  cases hv : (decide (0 ≤ i) && decide (i < (st.S.length : Int)))
  · have HS := Lib.hid (has_is w d st F h i false hv)
    obtain ⟨g, m, lv, hi, he⟩ := h
    obtain ⟨_, _, _, _, c4⟩ := hi.cells
    rw [hu] at c4
    clear hi he hu hv hc
    go_enter Tryd.func45, Tryd.ntmps45
    go_wp2_with fail
    refine HS.out.mono ?_
    rintro e w1 ⟨rfl, rfl⟩
    go_wp2_with fail
    go_ret
    exact ⟨rfl, rfl⟩
  · have HS := Lib.hid (has_is w d st F h i true hv)
    rw [hv] at hc
    have hsz : s.size ≠ 256 := by simpa using hc
    have h1 : ((s.size : Int) == 256) = false := by simpa using (fun hc : (s.size : Int) = 256 => hsz (by omega))
    have h2 : ((s.size : Int) != 256) = true := by simp [bne, h1]
    obtain ⟨g, m, lv, hi, he⟩ := h
    obtain ⟨_, _, _, _, c4⟩ := hi.cells
    rw [hu] at c4
    clear hi he hu hv hc hsz
    go_enter Tryd.func45, Tryd.ntmps45
    go_wp2_with fail
    refine HS.out.mono ?_
    rintro e w1 ⟨rfl, rfl⟩
    go_wp2_with fail
    go_ret
    exact ⟨rfl, rfl⟩
set_option maxHeartbeats 800000 in
set_option maxRecDepth 20000 in
theorem write_blown (w : World) (d : Nat) (st : DkS) (F : Nat → Prop) (h : Dk w d st F) (i : Nat) (s : ByteArray) (hu : st.up = true) (hi : i < st.S.length) (hs : s.size = 256) (hf : st.fuse = 0) :
    Calls Tryd.prog 45 #[.pointer (some ⟨d, 0, none⟩), .int .i64 (i : Int), .string s] w fun e w' => e = .returned (.int .i64 5) ∧ DkPost w d { st with up := false } F w' := by
  have HS := Lib.hid (has_is w d st F h (i : Int) true (by simp; omega))
  obtain ⟨g, m, lv, hk, he⟩ := h
  obtain ⟨_, _, _, c3, c4⟩ := hk.cells
  have f4 := hk.free 4
  have FIN : Hid (DkPost w d { st with up := false } F (w.setCell ⟨d, 4, none⟩ (.bool false))) := Lib.hid ⟨F, ⟨g, m, lv, hk.setUp false, he⟩, (Frm.refl _ _).setCell _ _ (.inl ((he d).2 (.inl rfl))), fun k hk => .inl hk⟩
  rw [hu] at c4
  rw [hf] at c3
  have hsi : (s.size : Int) = 256 := by omega
  clear hk he hu hf hs
  go_enter Tryd.func45, Tryd.ntmps45
  go_wp2_with fail
  refine HS.out.mono ?_
  rintro e w1 ⟨rfl, rfl⟩
  go_wp2_with fail
  go_ret
  exact ⟨rfl, FIN.out⟩
set_option maxRecDepth 20000 in
/-- The last part of a Write: the bytes are copied. -/
theorem copied_sec {w : World} {d g m : Nat} {lv : Value} {st : DkS} (h : DkIn w d g m lv st) (n : Nat) (hn : n < st.S.length) (s : ByteArray) (hs : s.size = 256) :
    (Builtin.copy_ #[85, 9] 3 #[.slice (some ⟨g, n * 256, none⟩) 256 256, .string s]).run Tryd.prog w = .ok (goInt 256) (w.setRow g (By (st.S.set n s.data.toList).flatten)) := by
  have hl := flat_len h.ok.lens
  have := Lib.run_copy_row_string (P := Tryd.prog) w 85 9 3 5 g (n * 256) 256 256 s (By st.S.flatten) 66 Tryd.underlying85 (by kernel_rfl) h.secs (by omega) (by rw [By_size, hl, hs]; omega)
  rw [hs] at this
  rw [this]
  congr 2
  apply Array.ext'
  have hf := flat_set h.ok.lens n hn s.data.toList
  rw [Nat.mul_comm 256 n] at hf
  rw [← hf]
  simp only [By, Lib.byteCells, List.map_append, List.map_take, List.map_drop]
  rfl
set_option maxHeartbeats 1600000 in
set_option maxRecDepth 20000 in
theorem write_yes (w : World) (d : Nat) (st : DkS) (F : Nat → Prop) (h : Dk w d st F) (i : Nat) (s : ByteArray) (hu : st.up = true) (hi : i < st.S.length) (hs : s.size = 256) (hf : st.fuse ≠ 0) :
    Calls Tryd.prog 45 #[.pointer (some ⟨d, 0, none⟩), .int .i64 (i : Int), .string s] w fun e w' => e = .returned (.int .i64 0) ∧ DkPost w d (st.wrote i s.data.toList) F w' := by
  have HS := Lib.hid (has_is w d st F h (i : Int) true (by simp; omega))
  have hsi : (s.size : Int) = 256 := by omega
  have hls : s.data.toList.length = 256 := by simp [hs]
  -- the fuse
  obtain ⟨w1, hw1, HD1, HF1⟩ : ∃ w1, ((0 < st.fuse ∧ w.setCell ⟨d, 3, none⟩ (.int .i64 (st.fuse - 1)) = w1) ∨ (st.fuse < 0 ∧ w = w1)) ∧ Dk w1 d { st with fuse := if 0 < st.fuse then st.fuse - 1 else st.fuse } F ∧ Frm F w w1 := by
    obtain ⟨g, m, lv, hk, he⟩ := h
    by_cases h0 : 0 < st.fuse
    · refine ⟨_, .inl ⟨h0, rfl⟩, ⟨g, m, lv, ?_, he⟩, (Frm.refl _ _).setCell _ _ (.inl ((he d).2 (.inl rfl)))⟩
      rw [if_pos h0]
      exact hk.setFuse _ (by omega) (by have := hk.ok.fuse1; omega)
    · refine ⟨_, .inr ⟨by omega, rfl⟩, ⟨g, m, lv, ?_, he⟩, Frm.refl _ _⟩
      rw [if_neg h0]
      exact hk
  have HLO := Lib.hid (loosen_any w1 d _ F HD1 i hi)
  have FIN : Hid (∀ w2, DkPost w1 d ({ st with fuse := if 0 < st.fuse then st.fuse - 1 else st.fuse }.loosened i) F w2 → ∃ g w3, w2.cell? ⟨d, 0, none⟩ = some (.slice (some ⟨g, 0, none⟩) st.S.length st.S.length) ∧
      (Builtin.copy_ #[85, 9] 3 #[.slice (some ⟨g, i * 256, none⟩) 256 256, .string s]).run Tryd.prog w2 = .ok (goInt 256) w3 ∧ DkPost w d (st.wrote i s.data.toList) F w3) := Lib.hid (by
    intro w2 hp
    obtain ⟨F2, ⟨g, m, lv, hk, he⟩, hf2, hs2⟩ := hp
    have hS := loosened_S { st with fuse := if 0 < st.fuse then st.fuse - 1 else st.fuse } i
    have hn2 : i < ({ st with fuse := if 0 < st.fuse then st.fuse - 1 else st.fuse }.loosened i).S.length := by rw [hS]; exact hi
    have c0 := hk.cells.1
    rw [hS] at c0
    refine ⟨g, _, c0, copied_sec hk i hn2 s hs, ?_⟩
    refine DkPost.trans (st1 := st) HF1 (fun k hk => .inl hk) ⟨F2, ⟨g, m, lv, hk.setSec i _ hls hn2, he⟩, ?_, hs2⟩
    exact hf2.setRow g _ (hs2 g ((he g).2 (.inr (.inl rfl)))))
  obtain ⟨g, m, lv, hk, he⟩ := h
  obtain ⟨_, _, _, c3, c4⟩ := hk.cells
  have f3 := hk.free 3
  rw [hu] at c4
  have hfew := hk.ok.few
  have g0 := hk.ok.fuse0
  have g1 := hk.ok.fuse1
  have hii : (i : Int) < (st.S.length : Int) := by omega
  clear hk he hu hf HD1 HF1 hls
  rcases hw1 with ⟨hc, rfl⟩ | ⟨hc, rfl⟩
  all_goals
    go_enter Tryd.func45, Tryd.ntmps45
    go_wp2_with fail
    refine HS.out.mono ?_
    rintro e w2 ⟨rfl, rfl⟩
    go_wp2_with fail
    refine HLO.out.mono ?_
    rintro e w2 ⟨rfl, hp⟩
    obtain ⟨g', w3, d0, hcp, hfin⟩ := FIN.out w2 hp
    have HFIN := Lib.hid hfin
    clear hp hfin
    go_wp2_with fail
    go_ret
    exact ⟨rfl, HFIN.out⟩
/-- Write, whatever it is asked. -/
theorem write_any (w : World) (d : Nat) (st : DkS) (F : Nat → Prop) (h : Dk w d st F) (i : Int) (s : ByteArray) :
    Calls Tryd.prog 45 #[.pointer (some ⟨d, 0, none⟩), .int .i64 i, .string s] w fun e w' => e = .returned (.int .i64 (st.write i s.data.toList).2) ∧ DkPost w d (st.write i s.data.toList).1 F w' := by
  have hl : s.data.toList.length = s.size := by simp
  unfold DkS.write
  rw [hl]
  cases hu : st.up
  · rw [if_pos rfl]
    exact (write_down w d st F h i s hu).mono fun e w' hw => ⟨hw.1, hw.2 ▸ DkPost.same h⟩
  · rw [if_neg (by simp)]
    cases hc : (decide (0 ≤ i) && decide (i < (st.S.length : Int)) && decide (s.size = 256))
    · rw [if_pos rfl]
      exact (write_arg w d st F h i s hu hc).mono fun e w' hw => ⟨hw.1, hw.2 ▸ DkPost.same h⟩
    · rw [if_neg (by simp)]
      simp only [Bool.and_eq_true, decide_eq_true_eq] at hc
      obtain ⟨n, rfl⟩ := Int.eq_ofNat_of_zero_le hc.1.1
      by_cases hf : st.fuse = 0
      · rw [if_pos hf]
        exact write_blown w d st F h n s hu (by omega) hc.2 hf
      · rw [if_neg hf]
        exact write_yes w d st F h n s hu (by omega) hc.2 hf
def DkS.read (st : DkS) (i : Int) : List UInt8 × Int :=
  if st.up = false then ([], 5) else if (decide (0 ≤ i) && decide (i < (st.S.length : Int))) = false then ([], 1) else (st.S.getD i.toNat [], 0)
/-- Read, whatever it is asked. -/
theorem read_any (w : World) (d : Nat) (st : DkS) (F : Nat → Prop) (h : Dk w d st F) (i : Int) :
    Calls Tryd.prog 50 #[.pointer (some ⟨d, 0, none⟩), .int .i64 i] w fun e w' => e = .returned (.tuple #[.string (Str (st.read i).1), .int .i64 (st.read i).2]) ∧ w = w' := by
  unfold DkS.read
  cases hu : st.up
  · rw [if_pos rfl]
    exact read_down w d st F h i hu
  · rw [if_neg (by simp)]
    cases hc : (decide (0 ≤ i) && decide (i < (st.S.length : Int)))
    · rw [if_pos rfl]
      exact read_no w d st F h i hu hc
    · rw [if_neg (by simp)]
      simp only [Bool.and_eq_true, decide_eq_true_eq] at hc
      obtain ⟨n, rfl⟩ := Int.eq_ofNat_of_zero_le hc.1
      have hn : n < st.S.length := by omega
      refine read_yes w d st F h n hu hn _ ?_
      rw [Int.toNat_natCast, List.getD_eq_getElem?_getD, List.getElem?_eq_getElem hn]
      rfl
end Go.Proofs.YtbjmbndeaobbeaaDoor
