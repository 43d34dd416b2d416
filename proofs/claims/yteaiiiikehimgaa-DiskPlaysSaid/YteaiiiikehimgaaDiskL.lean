/-
  A disk that a law has made: what stood ahead of the law is as it was.
-/
import Derived.Test.YteaiiiikehimgaaDiskC
namespace Go.Proofs.Yteaiiiikehimgaa
open Go.RowKit
set_option linter.unusedVariables false
set_option linter.unusedSimpArgs false
/-- A disk all of whose blocks were made behind w0. -/
def DkL (w0 w : World) (d : Nat) (st : DkS) : Prop := ∃ F, Dk w d st F ∧ Below w0.heap.size w0 w ∧ ∀ k, F k → w0.heap.size ≤ k
theorem DkL.below {w0 w : World} {d : Nat} {st : DkS} (h : DkL w0 w d st) : Below w0.heap.size w0 w := h.choose_spec.2.1
theorem DkL.ok {w0 w : World} {d : Nat} {st : DkS} (h : DkL w0 w d st) : st.Ok := h.choose_spec.1.ok
theorem DkL.step {w0 w w' : World} {d : Nat} {st : DkS} (h : DkL w0 w d st) (hb : Below w.heap.size w w') : DkL w0 w' d st := by
  obtain ⟨F, hd, hw, hF⟩ := h
  exact ⟨F, hd.below hb, chain hw hb, hF⟩
theorem DkL.post {w0 w w' : World} {d : Nat} {st' : DkS} {F : Nat → Prop} (hw : Below w0.heap.size w0 w) (hF : ∀ k, F k → w0.heap.size ≤ k) (hp : DkPost w d st' F w') : DkL w0 w' d st' := by
  obtain ⟨F', hd, hf, hs⟩ := hp
  refine ⟨F', hd, hw.trans (hf.below (fun k hk => hF k hk) hw.size), fun k hk => ?_⟩
  rcases hs k hk with hx | hx
  · exact hF k hx
  · exact Nat.le_trans hw.size hx
theorem write_L {w0 w : World} {d : Nat} {st : DkS} (h : DkL w0 w d st) (i : Int) (s : ByteArray) :
    Calls Try.prog 13 #[.pointer (some ⟨d, 0, none⟩), .int .i64 i, .string s] w fun e w' => e = .returned (.int .i64 (st.write i s.data.toList).2) ∧ DkL w0 w' d (st.write i s.data.toList).1 := by
  obtain ⟨F, hd, hw, hF⟩ := h
  exact (write_any w d st F hd i s).mono fun e w' hp => ⟨hp.1, DkL.post hw hF hp.2⟩
theorem read_L {w0 w : World} {d : Nat} {st : DkS} (h : DkL w0 w d st) (i : Int) :
    Calls Try.prog 18 #[.pointer (some ⟨d, 0, none⟩), .int .i64 i] w fun e w' => e = .returned (.tuple #[.string (Str (st.read i).1), .int .i64 (st.read i).2]) ∧ w = w' := by
  obtain ⟨F, hd, hw, hF⟩ := h
  exact read_any w d st F hd i
theorem sync_L {w0 w : World} {d : Nat} {st : DkS} (h : DkL w0 w d st) :
    Calls Try.prog 15 #[.pointer (some ⟨d, 0, none⟩)] w fun e w' => e = .returned (.int .i64 st.sync.2) ∧ DkL w0 w' d st.sync.1 := by
  obtain ⟨F, hd, hw, hF⟩ := h
  exact (sync_any w d st F hd).mono fun e w' hp => ⟨hp.1, DkL.post hw hF hp.2⟩
theorem up_L {w0 w : World} {d : Nat} {st : DkS} (h : DkL w0 w d st) :
    Calls Try.prog 19 #[.pointer (some ⟨d, 0, none⟩)] w fun e w' => e = .returned (.bool st.up) ∧ w = w' := by
  obtain ⟨F, hd, hw, hF⟩ := h
  exact up_is w d st F hd
theorem fuse_L {w0 w : World} {d : Nat} {st : DkS} (h : DkL w0 w d st) (n v : Int) (hv : (n < -1 ∧ v = -1) ∨ (-1 ≤ n ∧ v = n)) (hn : n ≤ 9223372036854775807) :
    Calls Try.prog 20 #[.pointer (some ⟨d, 0, none⟩), .int .i64 n] w fun e w' => e = .returned (.tuple #[]) ∧ DkL w0 w' d { st with fuse := v } := by
  obtain ⟨F, hd, hw, hF⟩ := h
  exact (fuse_is w d st F hd n v hv hn).mono fun e w' hp => ⟨hp.1, DkL.post hw hF hp.2⟩
theorem crash_L {w0 w : World} {d : Nat} {st : DkS} (h : DkL w0 w d st) (ka : Option Addr) (klen kcap : Nat) (zs : List Int) (hk : IsInts .i64 w0 ka klen kcap zs) :
    Calls Try.prog 17 #[.pointer (some ⟨d, 0, none⟩), .slice ka klen kcap] w fun e w' => e = .returned (.tuple #[]) ∧ DkL w0 w' d (st.crash (zs.take klen)) := by
  obtain ⟨F, hd, hw, hF⟩ := h
  refine (crash_is w d st F hd ka klen kcap (zs.take klen) ?_).mono fun e w' hp => ⟨hp.1, DkL.post hw hF hp.2⟩
  rcases hk with ⟨rfl, rfl, rfl, rfl⟩ | ⟨x, rfl, h1, h2, h3, h4, h5⟩
  · exact ⟨rfl, Nat.le_refl _, by decide, .inl ⟨rfl, rfl, rfl⟩⟩
  · refine ⟨by rw [List.length_take]; omega, h1, h2, .inr ⟨x, rfl, fun w' hf j hj => ?_⟩⟩
    have hc := h4 j (by omega)
    have hlt : (x.add j).block < w0.heap.size := by
      unfold World.cell? at hc
      cases hq : w0.heap[(x.add j).block]? with
      | none => rw [hq] at hc; simp at hc
      | some o => exact (Array.getElem?_eq_some_iff.1 hq).1
    have hb : w'.heap[(x.add j).block]? = w0.heap[(x.add j).block]? := by
      rw [hf.block _ (Nat.lt_of_lt_of_le hlt hw.size) (fun hx => by have := hF _ hx; omega)]
      exact hw.block _ hlt
    rw [World.cell?_of_block hb, hc, List.getD_eq_getElem?_getD, List.getD_eq_getElem?_getD, List.getElem?_take, if_pos hj]
theorem made_L {w0 w w' : World} {st : DkS} {e : Ending} (hw : Below w0.heap.size w0 w) (h : Made w st e w') : ∃ d, e = .returned (.tuple #[.pointer (some ⟨d, 0, none⟩), .int .i64 0]) ∧ DkL w0 w' d st := by
  obtain ⟨d, F, he, hd, hb, hF⟩ := h
  exact ⟨d, he, F, hd, chain hw hb, fun k hk => Nat.le_trans hw.size (hF k hk)⟩
/-- A row of numbers that a call hands back. -/
def RowOut (w : World) (xs : List Int) (e : Ending) (w' : World) : Prop := ∃ v, e = .returned v ∧ w'.ownsRow w.heap.size 3 1 v xs.length (xs.map fun n => .int .i64 n) ∧ Below w.heap.size w w'
theorem nil_nil (w : World) : (binOp .eql 29 (.slice none 0 0) (.slice none 0 0)).run Try.prog w = .ok (.bool true) w := by kernel_rfl
theorem some_nil (a : Addr) (n c : Nat) (w : World) : (binOp .eql 29 (.slice (some a) n c) (.slice none 0 0)).run Try.prog w = .ok (.bool false) w := by kernel_rfl
set_option maxHeartbeats 800000 in
theorem clone_is (w : World) (v : Value) (xs : List Int) (hv : w.ownsRow 0 3 1 v xs.length (xs.map fun n => .int .i64 n)) (hx : xs.length ≤ 100000) :
    Calls Try.prog 32 #[v] w (RowOut w xs) := by
  rcases hv.2 with ⟨rfl, h2⟩ | ⟨b, cap, cur, rfl, _, hg, hnc, hcm, hcs, ht⟩
  · have FIN : Hid (RowOut w xs (.returned (.slice none 0 0)) w) := Lib.hid (by
      obtain rfl : xs = [] := List.length_eq_zero_iff.1 h2
      exact ⟨_, rfl, World.ownsRow_nil _ _ _ _, Below.refl _ _⟩)
    clear hv h2
    go_enter Try.func32, Try.ntmps32
    have hn := nil_nil w
    go_wp2_with fail
    go_ret
    exact FIN.out
  · obtain ⟨w1, hw1⟩ : ∃ w1, w.alloc (.cells #[] 3) = w1 := ⟨_, rfl⟩
    have hown : w1.ownsRow w.heap.size 3 1 (.slice (some ⟨w.heap.size, 0, none⟩) 0 0) 0 [] := by
      rw [← hw1]
      exact World.ownsRow_made w #[] 0 (Nat.le_refl _) (by decide) rfl
    have hsz : w1.heap.size = w.heap.size + 1 := by rw [← hw1]; simp
    have hcells := hv.cells (g := b) rfl
    have hbl : b < w.heap.size := (Array.getElem?_eq_some_iff.1 hg).1
    obtain ⟨i, hinfo, hz0, hz1, hz2⟩ : ∃ i, Try.prog.info? 3 = some i ∧ i.zero = some (.int .i64 0) ∧ i.size = 1 ∧ i.bytes = 8 := by
      have : (Try.prog.info? 3).map (fun i => (i.zero, i.size, i.bytes)) = some (some (.int .i64 0), 1, 8) := by kernel_rfl
      cases hq : Try.prog.info? 3 with
      | none => rw [hq] at this; cases this
      | some i =>
        rw [hq] at this
        simp only [Option.map_some, Option.some.injEq, Prod.mk.injEq] at this
        exact ⟨i, rfl, this.1, this.2.1, this.2.2⟩
    obtain ⟨v', w2, hap, ho2, hg2, hnil⟩ := run_append_own (P := Try.prog) w1 w.heap.size 29 29 3 i _ 1 8 Try.underlying29 hinfo hz0 hz1 hz2 rfl (by decide) _ 0 [] hown ⟨b, 0, none⟩ xs.length cap (xs.map fun n => .int .i64 n) (by simp) (fun j u hj => by
      rw [← hcells j u hj]
      exact World.cell?_of_block (by rw [← hw1]; exact Below.heap_alloc _ _ _ (by rw [addr_add]; exact hbl))) (by
      intro u hu
      obtain ⟨n, _, rfl⟩ := List.mem_map.1 hu
      rfl) (by simp only [maxLen]; omega) (by omega) (by omega)
    rw [Nat.zero_add, List.nil_append] at ho2
    have FIN : Hid (RowOut w xs (.returned v') w2) := Lib.hid ⟨v', rfl, ho2, by
      have hb1 : Below w.heap.size w w1 := by rw [← hw1]; exact (Below.refl _ _).alloc (Nat.le_refl _) _
      exact hb1.grown hg2 hb1.size (fun k hk => by have : some w.heap.size = some k := hk; injection this with this; omega)⟩
    obtain ⟨k, c, rfl⟩ : ∃ k c, v' = .slice (some ⟨k, 0, none⟩) xs.length c := by
      rcases ho2.2 with ⟨h1, _⟩ | ⟨k, c, cur, h1, _⟩
      · have := hnil.1 h1
        simp at this
      · exact ⟨k, c, h1⟩
    clear hv hg hnc hcm hcs ht hown hcells hinfo hz0 hz1 hz2 ho2 hg2 hnil
    have hn := some_nil ⟨b, 0, none⟩ xs.length cap w
    go_enter Try.func32, Try.ntmps32
    go_wp2_with (at_builtin; refine append_run rfl (.tmp 5) (.tmp 6) 29 rfl _ _ _ rfl rfl hap ?_)
    go_ret
    exact FIN.out
set_option maxHeartbeats 400000 in
theorem loose_L {w0 w : World} {d : Nat} {st : DkS} (h : DkL w0 w d st) :
    Calls Try.prog 16 #[.pointer (some ⟨d, 0, none⟩)] w (RowOut w (st.L.map fun p => (p.1 : Int))) := by
  obtain ⟨F, ⟨g, m, lv, hi, he⟩, hw, hF⟩ := h
  obtain ⟨_, c1, _, _, _⟩ := hi.cells
  have hl := hi.loose
  have hle := hi.ok.loose_le
  have CL := Lib.hid (clone_is w lv (st.L.map fun p => (p.1 : Int)) (by rw [List.length_map, List.map_map]; exact hl) (by rw [List.length_map]; omega))
  clear hi he hl hw hF
  go_enter Try.func16, Try.ntmps16
  go_wp2_with fail
  refine CL.out.mono ?_
  rintro e w1 ⟨v, rfl, ho, hb⟩
  have FIN : Hid (RowOut w (st.L.map fun p => (p.1 : Int)) (.returned v) w1) := Lib.hid ⟨v, rfl, ho, hb⟩
  clear ho hb CL
  go_wp2_with fail
  go_ret
  exact FIN.out
end Go.Proofs.Yteaiiiikehimgaa
