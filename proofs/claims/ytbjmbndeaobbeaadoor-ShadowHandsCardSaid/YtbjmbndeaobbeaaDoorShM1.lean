/-
  Package shadow: a store's plain methods.
-/
import Derived.Test.YtbjmbndeaobbeaaDoorShSto
namespace Go.Proofs.YtbjmbndeaobbeaaDoor
open Go.RowKit
set_option linter.unusedVariables false
set_option linter.unusedSimpArgs false
/-- A disk and a store on it. -/
structure DS (w : World) (d s : Nat) (dk : DkS) (st : ShS) (FD FS : Nat → Prop) : Prop where
  dk : Dk w d dk FD
  sto : Sto w s d st FS
  apart : ∀ k, FD k → ¬ FS k
theorem DS.below {w w' : World} {d s : Nat} {dk : DkS} {st : ShS} {FD FS : Nat → Prop} (h : DS w d s dk st FD FS) (hb : Below w.heap.size w w') : DS w' d s dk st FD FS :=
  ⟨h.dk.below hb, h.sto.below hb, h.apart⟩
/-- What a call on a store leaves. -/
def DSPost (w : World) (d s : Nat) (FD FS : Nat → Prop) (dk : DkS) (st : ShS) (w' : World) : Prop := ∃ FD', DS w' d s dk st FD' FS ∧ Frm (fun k => FD k ∨ FS k) w w' ∧ ∀ k, FD' k → FD k ∨ w.heap.size ≤ k
theorem DSPost.same {w : World} {d s : Nat} {dk : DkS} {st : ShS} {FD FS : Nat → Prop} (h : DS w d s dk st FD FS) : DSPost w d s FD FS dk st w := ⟨FD, h, Frm.refl _ _, fun k hk => .inl hk⟩
theorem DSPost.below {w w' : World} {d s : Nat} {dk : DkS} {st : ShS} {FD FS : Nat → Prop} (h : DS w d s dk st FD FS) (hb : Below w.heap.size w w') : DSPost w d s FD FS dk st w' := ⟨FD, h.below hb, Frm.of_below hb, fun k hk => .inl hk⟩
/-- One call behind another. -/
theorem DSPost.trans {w w1 w2 : World} {d s : Nat} {dk1 dk2 : DkS} {st1 st2 : ShS} {FD FD1 FS : Nat → Prop} (hs : w.heap.size ≤ w1.heap.size) (hf : Frm (fun k => FD k ∨ FS k) w w1) (hn : ∀ k, FD1 k → FD k ∨ w.heap.size ≤ k) (h2 : DSPost w1 d s FD1 FS dk2 st2 w2) : DSPost w d s FD FS dk2 st2 w2 := by
  obtain ⟨FD2, h, f2, n2⟩ := h2
  refine ⟨FD2, h, hf.trans f2 (fun k hk => ?_), fun k hk => ?_⟩
  · rcases hk with hk | hk
    · rcases hn k hk with hx | hx
      · exact .inl (.inl hx)
      · exact .inr hx
    · exact .inl (.inr hk)
  · rcases n2 k hk with hx | hx
    · exact hn k hx
    · exact .inr (Nat.le_trans hs hx)
/-- A change of the disk alone. -/
theorem DSPost.disk {w w' : World} {d s : Nat} {dk dk' : DkS} {st : ShS} {FD FS : Nat → Prop} (h : DS w d s dk st FD FS) (hp : DkPost w d dk' FD w') : DSPost w d s FD FS dk' st w' := by
  obtain ⟨FD', h1, h2, h3⟩ := hp
  refine ⟨FD', ⟨h1, h.sto.frm h2 (fun k hk hx => h.apart k hx hk), fun k hk hx => ?_⟩, h2.mono (fun i hi => .inl hi), h3⟩
  rcases h3 k hk with hy | hy
  · exact h.apart k hy hx
  · have := h.sto.lt k hx; omega
/-- A change of the store alone. -/
theorem DSPost.store {w w' : World} {d s : Nat} {dk : DkS} {st st' : ShS} {FD FS : Nat → Prop} (h : DS w d s dk st FD FS) (hf : Frm FS w w') (hs : Sto w' s d st' FS) : DSPost w d s FD FS dk st' w' :=
  ⟨FD, ⟨h.dk.frm hf h.apart, hs, h.apart⟩, hf.mono (fun i hi => .inr hi), fun k hk => .inl hk⟩
theorem StoIn.cells {w : World} {s d f g : Nat} {st : ShS} (h : StoIn w s d f g st) :
    w.cell? ⟨s, 0, none⟩ = some (.pointer (some ⟨d, 0, none⟩)) ∧ w.cell? ⟨s, 1, none⟩ = some (.int .i64 st.h.gen) ∧ w.cell? ⟨s, 2, none⟩ = some (.int .i64 st.h.root) ∧ w.cell? ⟨s, 3, none⟩ = some (.string st.h.used) ∧ w.cell? ⟨s, 4, none⟩ = some (.map (some f)) ∧ w.cell? ⟨s, 5, none⟩ = some (.map (some g)) ∧ w.cell? ⟨s, 6, none⟩ = some (.bool st.up) := by
  refine ⟨?_, ?_, ?_, ?_, ?_, ?_, ?_⟩ <;> (rw [Go.Joins.cell_of_block h.cell]; rfl)
theorem StoIn.free {w : World} {s d f g : Nat} {st : ShS} (h : StoIn w s d f g st) (k : Nat) : w.frozen? ⟨s, k, none⟩ = false := Go.Joins.unfrozen_of_block h.cell k
set_option maxHeartbeats 800000 in
set_option maxRecDepth 20000 in
theorem root_is (w : World) (s d : Nat) (st : ShS) (F : Nat → Prop) (h : Sto w s d st F) :
    Calls Tryd.prog 11 #[.pointer (some ⟨s, 0, none⟩)] w fun e w' => e = .returned (.int .i64 st.h.root) ∧ w = w' := by
  obtain ⟨f, g, hi, he⟩ := h
  obtain ⟨c0, c1, c2, c3, c4, c5, c6⟩ := hi.cells
  clear he hi
  go_enter Tryd.func11, Tryd.ntmps11
  go_wp2_with fail
  go_ret
  exact ⟨rfl, rfl⟩
set_option maxHeartbeats 800000 in
set_option maxRecDepth 20000 in
theorem gen_is (w : World) (s d : Nat) (st : ShS) (F : Nat → Prop) (h : Sto w s d st F) :
    Calls Tryd.prog 18 #[.pointer (some ⟨s, 0, none⟩)] w fun e w' => e = .returned (.int .i64 st.h.gen) ∧ w = w' := by
  obtain ⟨f, g, hi, he⟩ := h
  obtain ⟨c0, c1, c2, c3, c4, c5, c6⟩ := hi.cells
  clear he hi
  go_enter Tryd.func18, Tryd.ntmps18
  go_wp2_with fail
  go_ret
  exact ⟨rfl, rfl⟩
set_option maxHeartbeats 800000 in
set_option maxRecDepth 20000 in
theorem stosize_is (w : World) (s d : Nat) (st : ShS) (F : Nat → Prop) (h : Sto w s d st F) (dk : DkS) (FD : Nat → Prop) (hd : Dk w d dk FD) :
    Calls Tryd.prog 26 #[.pointer (some ⟨s, 0, none⟩)] w fun e w' => e = .returned (.int .i64 (dk.S.length : Int)) ∧ w = w' := by
  obtain ⟨f, g, hi, he⟩ := h
  obtain ⟨c0, c1, c2, c3, c4, c5, c6⟩ := hi.cells
  have SZ := Lib.hid (dsize_is w d dk FD hd)
  clear he hi hd
  go_enter Tryd.func26, Tryd.ntmps26
  go_wp2_with fail
  refine SZ.out.mono ?_
  rintro e w1 ⟨rfl, rfl⟩
  go_wp2_with fail
  go_ret
  exact ⟨rfl, rfl⟩
set_option maxHeartbeats 800000 in
set_option maxRecDepth 20000 in
theorem used_is (w : World) (s d : Nat) (st : ShS) (F : Nat → Prop) (h : Sto w s d st F) (n : Int) (hn : n < 9223372036854775808) :
    Calls Tryd.prog 27 #[.pointer (some ⟨s, 0, none⟩), .int .i64 n] w fun e w' => e = .returned (.bool (hasB st.h.used n)) ∧ w = w' := by
  obtain ⟨f, g, hi, he⟩ := h
  obtain ⟨c0, c1, c2, c3, c4, c5, c6⟩ := hi.cells
  have HS := Lib.hid (has_any st.h.used n w hn)
  clear he hi hn
  go_enter Tryd.func27, Tryd.ntmps27
  go_wp2_with fail
  refine HS.out.mono ?_
  rintro e w1 ⟨rfl, rfl⟩
  go_wp2_with fail
  go_ret
  exact ⟨rfl, rfl⟩
set_option maxHeartbeats 800000 in
set_option maxRecDepth 20000 in
theorem fresh_is (w : World) (s d : Nat) (st : ShS) (F : Nat → Prop) (h : Sto w s d st F) (n : Int) :
    Calls Tryd.prog 22 #[.pointer (some ⟨s, 0, none⟩), .int .i64 n] w fun e w' => e = .returned (.bool (decide (n ∈ st.fresh))) ∧ Below w.heap.size w w' := by
  obtain ⟨f, g, hi, he⟩ := h
  obtain ⟨c0, c1, c2, c3, c4, c5, c6⟩ := hi.cells
  have HS := Lib.hid (pages_has f st.fresh n w hi.fr)
  clear he hi
  go_enter Tryd.func22, Tryd.ntmps22
  go_wp2_with fail
  refine HS.out.mono ?_
  rintro e w1 ⟨rfl, b1⟩
  go_wp2_with fail
  go_ret
  exact ⟨rfl, b1⟩
def ShS.told (st : ShS) (e : Int) : ShS := if e = 5 then { st with up := false } else st
theorem StoIn.setUp {w : World} {s d f g : Nat} {st : ShS} (h : StoIn w s d f g st) (u : Bool) : StoIn (w.setCell ⟨s, 6, none⟩ (.bool u)) s d f g { st with up := u } :=
  { cell := by rw [heap_setCell_same _ _ 6 _ _ _ h.cell]; rfl
    fr := h.fr.kept (Below.heap_setCell _ _ _ _ (Ne.symm h.sf))
    gv := h.gv.kept (Below.heap_setCell _ _ _ _ (Ne.symm h.sg))
    sf := h.sf
    sg := h.sg
    fg := h.fg
    ok := h.ok
    fb := h.fb
    gb := h.gb }
set_option maxHeartbeats 800000 in
set_option maxRecDepth 20000 in
theorem told_is (w : World) (s d : Nat) (st : ShS) (F : Nat → Prop) (h : Sto w s d st F) (q : Int) :
    Calls Tryd.prog 29 #[.pointer (some ⟨s, 0, none⟩), .int .i64 q] w fun e w' => e = .returned (.int .i64 q) ∧ Sto w' s d (st.told q) F ∧ Frm F w w' := by
  have H := Lib.hid h
  obtain ⟨f, g, hi, he⟩ := h
  obtain ⟨c0, c1, c2, c3, c4, c5, c6⟩ := hi.cells
  have f6 := hi.free 6
  have FIN : Hid (Sto (w.setCell ⟨s, 6, none⟩ (.bool false)) s d { st with up := false } F ∧ Frm F w (w.setCell ⟨s, 6, none⟩ (.bool false))) := Lib.hid ⟨⟨f, g, hi.setUp false, he⟩, (Frm.refl F w).setCell _ _ (.inl ((he s).2 (.inl rfl)))⟩
  unfold ShS.told
  clear he hi
  by_cases h5 : q = 5
  · subst h5
    rw [if_pos rfl]
    go_enter Tryd.func29, Tryd.ntmps29
    go_wp2_with fail
    go_ret
    exact ⟨rfl, FIN.out⟩
  · rw [if_neg h5]
    have hb : (q == 5) = false := by simpa using h5
    clear FIN
    go_enter Tryd.func29, Tryd.ntmps29
    go_wp2_with fail
    go_ret
    exact ⟨rfl, H.out, Frm.refl _ _⟩
def ShS.read (st : ShS) (dk : DkS) (n : Int) : Int × ByteArray × Int :=
  if st.up = false then (0, ⟨#[]⟩, 5) else if n < 2 ∨ (dk.S.length : Int) ≤ n then (0, ⟨#[]⟩, 1) else (rdK dk n, rdT dk n, rdE dk n)
def ShS.reads (st : ShS) (dk : DkS) (n : Int) : ShS := if st.up = false then st else if n < 2 ∨ (dk.S.length : Int) ≤ n then st else st.told (rdE dk n)
set_option maxHeartbeats 1600000 in
set_option maxRecDepth 20000 in
theorem read_is (w : World) (d s : Nat) (dk : DkS) (st : ShS) (FD FS : Nat → Prop) (h : DS w d s dk st FD FS) (n : Int) :
    Calls Tryd.prog 20 #[.pointer (some ⟨s, 0, none⟩), .int .i64 n] w fun e w' => e = .returned (.tuple #[.int .i64 (st.read dk n).1, .string (st.read dk n).2.1, .int .i64 (st.read dk n).2.2]) ∧ DSPost w d s FD FS dk (st.reads dk n) w' := by
  have H := Lib.hid h
  have SZ := Lib.hid (stosize_is w s d st FS h.sto dk FD h.dk)
  have RD := Lib.hid (pageRead_is w d dk FD h.dk n)
  have TD := Lib.hid (fun w' (hb : Below w.heap.size w w') q => told_is w' s d st FS (h.sto.below hb) q)
  have FIN := Lib.hid (fun w1 w2 (hb : Below w.heap.size w w1) st' (hs : Sto w2 s d st' FS) (hf : Frm FS w1 w2) => DSPost.trans (dk1 := dk) (st1 := st) hb.size (Frm.of_below hb) (fun k hk => .inl hk) (DSPost.store (h.below hb) hf hs))
  obtain ⟨f, g, hi, he⟩ := h.sto
  obtain ⟨c0, c1, c2, c3, c4, c5, c6⟩ := hi.cells
  clear h he hi
  cases hu : st.up
  · rw [show st.read dk n = (0, ⟨#[]⟩, 5) from by unfold ShS.read; rw [hu]; rfl, show st.reads dk n = st from by unfold ShS.reads; rw [hu]; rfl]
    rw [hu] at c6
    go_enter Tryd.func20, Tryd.ntmps20
    go_wp2_with fail
    go_ret3
    exact ⟨rfl, DSPost.same H.out⟩
  · rw [hu] at c6
    by_cases h1 : n < 2
    · rw [show st.read dk n = (0, ⟨#[]⟩, 1) from by unfold ShS.read; rw [hu]; simp [h1], show st.reads dk n = st from by unfold ShS.reads; rw [hu]; simp [h1]]
      go_enter Tryd.func20, Tryd.ntmps20
      go_wp2_with fail
      go_ret3
      exact ⟨rfl, DSPost.same H.out⟩
    · by_cases h2 : (dk.S.length : Int) ≤ n
      · rw [show st.read dk n = (0, ⟨#[]⟩, 1) from by unfold ShS.read; rw [hu]; simp [h2], show st.reads dk n = st from by unfold ShS.reads; rw [hu]; simp [h2]]
        go_enter Tryd.func20, Tryd.ntmps20
        go_wp2_with fail
        refine SZ.out.mono ?_
        rintro e w1 ⟨rfl, rfl⟩
        go_wp2_with fail
        go_ret3
        exact ⟨rfl, DSPost.same H.out⟩
      · rw [show st.read dk n = (rdK dk n, rdT dk n, rdE dk n) from by unfold ShS.read; rw [hu]; simp [h1, h2], show st.reads dk n = st.told (rdE dk n) from by unfold ShS.reads; rw [hu]; simp [h1, h2]]
        generalize rdK dk n = rk at *
        generalize rdT dk n = rt at *
        generalize rdE dk n = re at *
        go_enter Tryd.func20, Tryd.ntmps20
        go_wp2_with fail
        refine SZ.out.mono ?_
        rintro e w1 ⟨rfl, rfl⟩
        go_wp2_with fail
        refine RD.out.mono ?_
        rintro e w2 ⟨rfl, b2⟩
        have T2 := Lib.hid (TD.out w2 b2 re)
        have F2 := Lib.hid (fun w3 st' => FIN.out w2 w3 b2 st')
        clear b2
        go_wp2_with fail
        refine T2.out.mono ?_
        rintro e w3 ⟨rfl, hs3, hf3⟩
        have P3 := Lib.hid (F2.out _ _ hs3 hf3)
        clear hs3 hf3
        go_wp2_with fail
        go_ret3
        exact ⟨rfl, P3.out⟩
def ShS.write (st : ShS) (dk : DkS) (n k : Int) (t : ByteArray) : DkS × ShS × Int :=
  if st.up = false then (dk, st, 5) else if n ∉ st.fresh then (dk, st, 6) else ((pgWr dk n k t).1, st.told (pgWr dk n k t).2, (pgWr dk n k t).2)
set_option maxHeartbeats 1600000 in
set_option maxRecDepth 20000 in
theorem stowrite_is (w : World) (d s : Nat) (dk : DkS) (st : ShS) (FD FS : Nat → Prop) (h : DS w d s dk st FD FS) (n k : Int) (t : ByteArray) :
    Calls Tryd.prog 13 #[.pointer (some ⟨s, 0, none⟩), .int .i64 n, .int .i64 k, .string t] w fun e w' => e = .returned (.int .i64 (st.write dk n k t).2.2) ∧ DSPost w d s FD FS (st.write dk n k t).1 (st.write dk n k t).2.1 w' := by
  have H := Lib.hid h
  obtain ⟨f, g, hi, he⟩ := h.sto
  have HS := Lib.hid (pages_has f st.fresh n w hi.fr)
  have WR := Lib.hid (fun w' (hb : Below w.heap.size w w') => pageWrite_is w' d dk FD (h.dk.below hb) n k t)
  have CE := Lib.hid (fun w' (hb : Below w.heap.size w w') => (hi.kept (fun k hk => hb.block k (hi.lt k hk))).cells)
  have FIN := Lib.hid (fun w1 w2 dk' (hb : Below w.heap.size w w1) (hp : DkPost w1 d dk' FD w2) => DSPost.disk (h.below hb) hp)
  have FIN2 := Lib.hid (fun w1 (hb : Below w.heap.size w w1) w2 dk' st' (hp : DSPost w1 d s FD FS dk' st' w2) => DSPost.trans (dk1 := dk) (st1 := st) hb.size (Frm.of_below hb) (fun k hk => .inl hk) hp)
  obtain ⟨c0, c1, c2, c3, c4, c5, c6⟩ := hi.cells
  unfold ShS.write
  clear h he hi
  cases hu : st.up
  · rw [if_pos rfl]
    rw [hu] at c6
    go_enter Tryd.func13, Tryd.ntmps13
    go_wp2_with fail
    go_ret
    exact ⟨rfl, DSPost.same H.out⟩
  · rw [if_neg (by decide)]
    rw [hu] at c6
    by_cases h1 : n ∈ st.fresh
    · rw [if_neg (by simpa using h1)]
      rw [decide_eq_true h1] at HS
      obtain ⟨⟨dk', re⟩, hr⟩ : ∃ r, pgWr dk n k t = r := ⟨_, rfl⟩
      rw [hr] at WR ⊢
      dsimp only at WR ⊢
      clear hr h1
      go_enter Tryd.func13, Tryd.ntmps13
      go_wp2_with fail
      refine HS.out.mono ?_
      rintro e w1 ⟨rfl, b1⟩
      obtain ⟨x0, -, -, -, -, -, -⟩ := CE.out _ b1
      have W1 := Lib.hid (WR.out _ b1)
      have P1 := Lib.hid (fun w2 hp => FIN.out w1 w2 dk' b1 hp)
      have P2 := Lib.hid (FIN2.out w1 b1)
      clear b1 CE
      go_wp2_with fail
      refine W1.out.mono ?_
      rintro e w2 ⟨rfl, hp⟩
      obtain ⟨FD2, hD2, hf2, hn2⟩ := P1.out w2 hp
      have T2 := Lib.hid (told_is w2 s d st FS hD2.sto re)
      have F2 := Lib.hid (fun w3 (hs : Sto w3 s d (st.told re) FS) (hf : Frm FS w2 w3) => P2.out w3 dk' (st.told re) (DSPost.trans (dk1 := dk') (st1 := st) hf2.size hf2 hn2 (DSPost.store hD2 hf hs)))
      clear hp hD2 hf2 hn2
      go_wp2_with fail
      refine T2.out.mono ?_
      rintro e w3 ⟨rfl, hs3, hf3⟩
      have P3 := Lib.hid (F2.out _ hs3 hf3)
      clear hs3 hf3
      go_wp2_with fail
      go_ret
      exact ⟨rfl, P3.out⟩
    · rw [if_pos h1]
      rw [decide_eq_false h1] at HS
      clear h1
      go_enter Tryd.func13, Tryd.ntmps13
      go_wp2_with fail
      refine HS.out.mono ?_
      rintro e w1 ⟨rfl, b1⟩
      have P1 := Lib.hid (DSPost.below H.out b1)
      clear b1
      go_wp2_with fail
      go_ret
      exact ⟨rfl, P1.out⟩
end Go.Proofs.YtbjmbndeaobbeaaDoor
