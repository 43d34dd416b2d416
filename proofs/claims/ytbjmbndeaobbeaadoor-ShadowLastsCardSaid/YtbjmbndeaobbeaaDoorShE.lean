/-
  Several texts in one: ShEx, ShL, ShMk.
-/
import Derived.Test.YtbjmbndeaobbeaaDoorShD
import Derived.Test.YtbjmbndeaobbeaaDoorDiskFacts
import Derived.Test.YtbjmbndeaobbeaaDoorDiskL
namespace Go.Proofs.YtbjmbndeaobbeaaDoor
open Go.RowKit
set_option linter.unusedVariables false
set_option linter.unusedSimpArgs false
def exD0 : DkS := DkS.fresh 8
def exD1 : DkS := (wrHead exD0 fmtH).1
def exS1 : ShS := { ShS.new fmtH with fresh := (ShS.new fmtH).fresh ++ [2] }
def exD2 : DkS := (exS1.write exD1 2 2 ⟨#[120]⟩).1
def exS2 : ShS := (exS1.write exD1 2 2 ⟨#[120]⟩).2.1
def exD3 : DkS := (exS2.commit exD2 2).1
set_option maxRecDepth 100000 in
theorem ex_a : mountE exD0 = 3 := by decide +kernel
set_option maxRecDepth 100000 in
theorem ex_b : (wrHead exD0 fmtH).2 = 0 := by decide +kernel
set_option maxRecDepth 100000 in
theorem ex_c : freeB (ShS.new fmtH) 2 = true ∧ exD1.S.length = 8 := by decide +kernel
set_option maxRecDepth 100000 in
theorem ex_d : (exS1.write exD1 2 2 ⟨#[120]⟩).2.2 = 0 := by decide +kernel
set_option maxRecDepth 100000 in
theorem ex_e : (exS2.commit exD2 2).2.2 = 0 := by decide +kernel
set_option maxRecDepth 100000 in
theorem ex_f : mountE exD3 = 0 ∧ (lastH exD3).1.root = 2 ∧ (lastH exD3).1.gen = 2 := by decide +kernel
end Go.Proofs.YtbjmbndeaobbeaaDoor
namespace Go.Proofs.YtbjmbndeaobbeaaDoor
open Go.RowKit
set_option linter.unusedVariables false
set_option linter.unusedSimpArgs false
def DSL (w0 w : World) (d s : Nat) (dk : DkS) (st : ShS) : Prop := ∃ FD FS, DS w d s dk st FD FS ∧ Below w0.heap.size w0 w ∧ (∀ k, FD k → w0.heap.size ≤ k) ∧ ∀ k, FS k → w0.heap.size ≤ k
theorem DSL.below {w0 w : World} {d s : Nat} {dk : DkS} {st : ShS} (h : DSL w0 w d s dk st) : Below w0.heap.size w0 w := by
  obtain ⟨_, _, _, hb, _⟩ := h; exact hb
theorem DSL.ok {w0 w : World} {d s : Nat} {dk : DkS} {st : ShS} (h : DSL w0 w d s dk st) : dk.Ok := by
  obtain ⟨_, _, h1, _⟩ := h; exact h1.dk.ok
theorem DSL.step {w0 w w' : World} {d s : Nat} {dk : DkS} {st : ShS} (h : DSL w0 w d s dk st) (hb : Below w.heap.size w w') : DSL w0 w' d s dk st := by
  obtain ⟨FD, FS, h1, h2, h3, h4⟩ := h
  exact ⟨FD, FS, h1.below hb, chain h2 hb, h3, h4⟩
theorem DSL.post {w0 w w' : World} {d s : Nat} {dk' : DkS} {st' : ShS} {FD FS : Nat → Prop} (hw : Below w0.heap.size w0 w) (hD : ∀ k, FD k → w0.heap.size ≤ k) (hS : ∀ k, FS k → w0.heap.size ≤ k) (hp : DSPost w d s FD FS dk' st' w') : DSL w0 w' d s dk' st' := by
  obtain ⟨FD', h1, h2, h3⟩ := hp
  have hF : Below w0.heap.size w w' := h2.below (fun i hi => hi.elim (hD i) (hS i)) hw.size
  refine ⟨FD', FS, h1, hw.trans hF, fun k hk => ?_, hS⟩
  rcases h3 k hk with hx | hx
  · exact hD k hx
  · exact Nat.le_trans hw.size hx
theorem born_L {w0 w w' : World} {d : Nat} {dk : DkS} {st : ShS} {F : Nat → Prop} {v : Value} (hw : Below w0.heap.size w0 w) (hF : ∀ k, F k → w0.heap.size ≤ k) (h : Born w d dk st F w' v) : ∃ s, v = .pointer (some ⟨s, 0, none⟩) ∧ DSL w0 w' d s dk st := by
  obtain ⟨s, FS, FD', rfl, h1, h2, h3, h4⟩ := h
  have hB : Below w0.heap.size w w' := h2.below hF hw.size
  refine ⟨s, rfl, FD', FS, h1, hw.trans hB, fun k hk => ?_, fun k hk => Nat.le_trans hw.size (h4 k hk)⟩
  rcases h3 k hk with hx | hx
  · exact hF k hx
  · exact Nat.le_trans hw.size hx
theorem take_L {w0 w : World} {d s : Nat} {dk : DkS} {st : ShS} (h : DSL w0 w d s dk st) (hu : st.up = true) (j : Nat) (h2 : 2 ≤ j) (hj : (j : Int) < (dk.S.length : Int)) (hall : ∀ k : Nat, 2 ≤ k → k < j → freeB st (k : Int) = false) (hf : freeB st (j : Int) = true) :
    Calls Tryd.prog 12 #[.pointer (some ⟨s, 0, none⟩)] w fun e w' => e = .returned (.tuple #[.int .i64 (j : Int), .int .i64 0]) ∧ DSL w0 w' d s dk { st with fresh := st.fresh ++ [(j : Int)] } := by
  obtain ⟨FD, FS, h1, hb, h3, h4⟩ := h
  exact (stoTake_yes w s d dk st FD FS h1.dk h1.sto hu j h2 hj hall hf).mono fun e w' ⟨he, hs, hf⟩ => ⟨he, DSL.post hb h3 h4 (DSPost.store h1 hf hs)⟩
theorem takeFull_L {w0 w : World} {d s : Nat} {dk : DkS} {st : ShS} (h : DSL w0 w d s dk st) (hu : st.up = true) (hall : ∀ k : Nat, 2 ≤ k → k < dk.S.length → freeB st (k : Int) = false) :
    Calls Tryd.prog 12 #[.pointer (some ⟨s, 0, none⟩)] w fun e w' => e = .returned (.tuple #[.int .i64 0, .int .i64 4]) ∧ DSL w0 w' d s dk st := by
  have h' := h
  obtain ⟨FD, FS, h1, hb, h3, h4⟩ := h
  exact (stoTake_full w s d dk st FD FS h1.dk h1.sto hu hall).mono fun e w' ⟨he, hw⟩ => ⟨he, h'.step hw⟩
theorem writeS_L {w0 w : World} {d s : Nat} {dk : DkS} {st : ShS} (h : DSL w0 w d s dk st) (n k : Int) (t : ByteArray) :
    Calls Tryd.prog 13 #[.pointer (some ⟨s, 0, none⟩), .int .i64 n, .int .i64 k, .string t] w fun e w' => e = .returned (.int .i64 (st.write dk n k t).2.2) ∧ DSL w0 w' d s (st.write dk n k t).1 (st.write dk n k t).2.1 := by
  obtain ⟨FD, FS, h1, hb, h3, h4⟩ := h
  exact (stowrite_is w d s dk st FD FS h1 n k t).mono fun e w' ⟨he, hp⟩ => ⟨he, DSL.post hb h3 h4 hp⟩
theorem readS_L {w0 w : World} {d s : Nat} {dk : DkS} {st : ShS} (h : DSL w0 w d s dk st) (n : Int) :
    Calls Tryd.prog 20 #[.pointer (some ⟨s, 0, none⟩), .int .i64 n] w fun e w' => e = .returned (.tuple #[.int .i64 (st.read dk n).1, .string (st.read dk n).2.1, .int .i64 (st.read dk n).2.2]) ∧ DSL w0 w' d s dk (st.reads dk n) := by
  obtain ⟨FD, FS, h1, hb, h3, h4⟩ := h
  exact (read_is w d s dk st FD FS h1 n).mono fun e w' ⟨he, hp⟩ => ⟨he, DSL.post hb h3 h4 hp⟩
theorem commit_L {w0 w : World} {d s : Nat} {dk : DkS} {st : ShS} (h : DSL w0 w d s dk st) (root : Int) (hr : root < 9223372036854775808) :
    Calls Tryd.prog 15 #[.pointer (some ⟨s, 0, none⟩), .int .i64 root] w fun e w' => e = .returned (.int .i64 (st.commit dk root).2.2) ∧ DSL w0 w' d s (st.commit dk root).1 (st.commit dk root).2.1 := by
  obtain ⟨FD, FS, h1, hb, h3, h4⟩ := h
  exact (commit_is w d s dk st FD FS h1 root hr).mono fun e w' ⟨he, hp⟩ => ⟨he, DSL.post hb h3 h4 hp⟩
theorem give_L {w0 w : World} {d s : Nat} {dk : DkS} {st : ShS} (h : DSL w0 w d s dk st) (n : Int) (hn : n < 9223372036854775808) (hb : hasB st.h.used n = true → 2 ≤ n ∧ n < 640) :
    Calls Tryd.prog 14 #[.pointer (some ⟨s, 0, none⟩), .int .i64 n] w fun e w' => e = .returned (.int .i64 (st.give n).2) ∧ DSL w0 w' d s dk (st.give n).1 := by
  obtain ⟨FD, FS, h1, hw, h3, h4⟩ := h
  exact (give_is w s d st FS h1.sto n hn hb).mono fun e w' ⟨he, hs, hf⟩ => ⟨he, DSL.post hw h3 h4 (DSPost.store h1 hf hs)⟩
theorem rollback_L {w0 w : World} {d s : Nat} {dk : DkS} {st : ShS} (h : DSL w0 w d s dk st) :
    Calls Tryd.prog 23 #[.pointer (some ⟨s, 0, none⟩)] w (Void fun w' => DSL w0 w' d s dk st.back) := by
  obtain ⟨FD, FS, h1, hw, h3, h4⟩ := h
  exact (rollback_is w s d st FS h1.sto).mono fun e w' ⟨he, hs, hf⟩ => ⟨he, DSL.post hw h3 h4 (DSPost.store h1 hf hs)⟩
theorem left_L {w0 w : World} {d s : Nat} {dk : DkS} {st : ShS} (h : DSL w0 w d s dk st) :
    Calls Tryd.prog 21 #[.pointer (some ⟨s, 0, none⟩)] w fun e w' => e = .returned (.int .i64 (leftN st dk.S.length)) ∧ Below w.heap.size w w' := by
  obtain ⟨FD, FS, h1, hw, h3, h4⟩ := h
  exact left_is w s d dk st FD FS h1.dk h1.sto
theorem used_L {w0 w : World} {d s : Nat} {dk : DkS} {st : ShS} (h : DSL w0 w d s dk st) :
    Calls Tryd.prog 19 #[.pointer (some ⟨s, 0, none⟩)] w fun e w' => (∃ a cap, e = .returned (.slice a (usedN st dk.S.length) cap)) ∧ Below w.heap.size w w' := by
  obtain ⟨FD, FS, h1, hw, h3, h4⟩ := h
  exact usedlist_is w s d dk st FD FS h1.dk h1.sto
theorem freshS_L {w0 w : World} {d s : Nat} {dk : DkS} {st : ShS} (h : DSL w0 w d s dk st) (n : Int) :
    Calls Tryd.prog 22 #[.pointer (some ⟨s, 0, none⟩), .int .i64 n] w fun e w' => e = .returned (.bool (decide (n ∈ st.fresh))) ∧ Below w.heap.size w w' := by
  obtain ⟨FD, FS, h1, hw, h3, h4⟩ := h
  exact fresh_is w s d st FS h1.sto n
theorem root_L {w0 w : World} {d s : Nat} {dk : DkS} {st : ShS} (h : DSL w0 w d s dk st) :
    Calls Tryd.prog 11 #[.pointer (some ⟨s, 0, none⟩)] w fun e w' => e = .returned (.int .i64 st.h.root) ∧ w = w' := by
  obtain ⟨FD, FS, h1, hw, h3, h4⟩ := h
  exact root_is w s d st FS h1.sto
theorem gen_L {w0 w : World} {d s : Nat} {dk : DkS} {st : ShS} (h : DSL w0 w d s dk st) :
    Calls Tryd.prog 18 #[.pointer (some ⟨s, 0, none⟩)] w fun e w' => e = .returned (.int .i64 st.h.gen) ∧ w = w' := by
  obtain ⟨FD, FS, h1, hw, h3, h4⟩ := h
  exact gen_is w s d st FS h1.sto
theorem format_L {w0 w : World} {d : Nat} {dk : DkS} (h : DkL w0 w d dk) (h0 : (wrHead dk fmtH).2 = 0) :
    Calls Tryd.prog 25 #[.pointer (some ⟨d, 0, none⟩)] w fun e w' => ∃ s, e = .returned (.tuple #[.pointer (some ⟨s, 0, none⟩), .int .i64 0]) ∧ DSL w0 w' d s (wrHead dk fmtH).1 (ShS.new fmtH) := by
  obtain ⟨F, h1, hb, h3⟩ := h
  refine (format_is w d dk F h1).mono fun e w' hp => ?_
  obtain ⟨v, he, hbn⟩ := hp.1 h0
  obtain ⟨s, rfl, hs⟩ := born_L hb h3 hbn
  exact ⟨s, he, hs⟩
theorem mountNone_L {w0 w : World} {d : Nat} {dk : DkS} (h : DkL w0 w d dk) (v : Int) (hv : v ≠ 0) (h0 : mountE dk = v) :
    Calls Tryd.prog 17 #[.pointer (some ⟨d, 0, none⟩)] w fun e w' => e = .returned (.tuple #[.pointer none, .int .i64 v]) ∧ DkL w0 w' d dk := by
  have h' := h
  obtain ⟨F, h1, hb, h3⟩ := h
  refine (mount_is w d dk F h1).mono fun e w' hp => ?_
  rw [← h0] at hv
  obtain ⟨he, hw⟩ := hp.2 hv
  rw [h0] at he
  exact ⟨he, h'.step hw⟩
theorem mount_L {w0 w : World} {d s : Nat} {dk : DkS} {st : ShS} (h : DSL w0 w d s dk st) (h0 : mountE dk = 0) :
    Calls Tryd.prog 17 #[.pointer (some ⟨d, 0, none⟩)] w fun e w' => ∃ s', e = .returned (.tuple #[.pointer (some ⟨s', 0, none⟩), .int .i64 0]) ∧ DSL w0 w' d s' dk (ShS.new (lastH dk).1) := by
  obtain ⟨FD, FS, h1, hb, h3, h4⟩ := h
  refine (mount_is w d dk FD h1.dk).mono fun e w' hp => ?_
  obtain ⟨v, he, hbn⟩ := hp.1 h0
  obtain ⟨s', rfl, hs⟩ := born_L hb h3 hbn
  exact ⟨s', he, hs⟩
theorem ptr_nilD (a : Addr) (w : World) : (binOp .eql 25 (.pointer (some a)) (.pointer none)).run Tryd.prog w = .ok (.bool false) w := by kernel_rfl
theorem ptr_nilS (a : Addr) (w : World) : (binOp .eql 26 (.pointer (some a)) (.pointer none)).run Tryd.prog w = .ok (.bool false) w := by kernel_rfl
theorem ptr_neS (a : Addr) (w : World) : (binOp .neq 26 (.pointer (some a)) (.pointer none)).run Tryd.prog w = .ok (.bool true) w := by kernel_rfl
theorem nil_nilS (w : World) : (binOp .eql 26 (.pointer none) (.pointer none)).run Tryd.prog w = .ok (.bool true) w := by kernel_rfl
theorem wrHead_fresh (n : Nat) (h8 : 8 ≤ n) (hn : n ≤ 640) : (wrHead (DkS.fresh n) fmtH).2 = 0 ∧ (wrHead (DkS.fresh n) fmtH).1.S.length = n ∧ (wrHead (DkS.fresh n) fmtH).1.up = true := by
  have hs : sealB 1 (headT fmtH) = true := by decide +kernel
  have hl : (sealS 1 (headT fmtH)).data.toList.length = 256 := by decide +kernel
  have hg : fmtH.gen % 2 = ((1 : Nat) : Int) := by decide
  have hw := write_done (DkS.fresh n) 1 (sealS 1 (headT fmtH)).data.toList rfl (by show 1 < (List.replicate n zs).length; rw [List.length_replicate]; omega) hl (by show (-1 : Int) ≠ 0; decide)
  unfold wrHead pgWr
  rw [if_pos hs, hg, hw]
  rw [if_pos rfl]
  unfold DkS.sync
  rw [wrote_up]
  refine ⟨rfl, ?_, ?_⟩
  · show ((DkS.fresh n).wrote 1 (sealS 1 (headT fmtH)).data.toList).S.length = n
    rw [wrote_S, List.length_set]
    exact List.length_replicate
  · show ((DkS.fresh n).wrote 1 (sealS 1 (headT fmtH)).data.toList).up = true
    rw [wrote_up]; rfl
end Go.Proofs.YtbjmbndeaobbeaaDoor
namespace Go.Proofs.YtbjmbndeaobbeaaDoor
open Go.RowKit
set_option linter.unusedVariables false
set_option linter.unusedSimpArgs false
set_option maxHeartbeats 3200000 in
set_option maxRecDepth 20000 in
theorem examples_yes (w : World) :
    Calls Tryd.prog 7 #[] w fun e w' => e = .returned (.bool true) ∧ Below w.heap.size w w' := by
  have NY := Lib.hid fun w => new_yes w 8 (by decide) (by decide)
  go_enter Tryd.func7, Tryd.ntmps7
  go_wp2_with fail
  refine (NY.out _).mono ?_
  intro e w1 hm
  obtain ⟨d, rfl, hd⟩ := made_L (Below.refl _ _) hm
  clear hm NY
  have HD := Lib.hid (show DkL w w1 d exD0 from hd)
  clear hd
  have pn := ptr_nilD ⟨d, 0, none⟩
  go_wp2_with fail
  refine (mountNone_L HD.out 3 (by decide) ex_a).mono ?_
  rintro e w2 ⟨rfl, hd⟩
  have HD2 := Lib.hid hd
  clear hd HD
  go_wp2_with fail
  refine (format_L HD2.out ex_b).mono ?_
  rintro e w3 ⟨s, rfl, hs⟩
  have HS3 := Lib.hid (show DSL w w3 d s exD1 (ShS.new fmtH) from hs)
  clear hs HD2
  have sn := ptr_nilS ⟨s, 0, none⟩
  go_wp2_with fail
  refine (take_L HS3.out rfl 2 (Nat.le_refl _) (by rw [ex_c.2]; decide) (fun k h1 h2 => absurd h1 (by omega)) ex_c.1).mono ?_
  rintro e w4 ⟨rfl, hs⟩
  have HS4 := Lib.hid (show DSL w w4 d s exD1 exS1 from hs)
  clear hs HS3
  go_wp2_with fail
  refine (writeS_L HS4.out 2 2 ⟨#[120]⟩).mono ?_
  rw [ex_d]
  rintro e w5 ⟨rfl, hs⟩
  have HS5 := Lib.hid (show DSL w w5 d s exD2 exS2 from hs)
  clear hs HS4
  go_wp2_with fail
  refine (commit_L HS5.out 2 (by decide)).mono ?_
  rw [ex_e]
  rintro e w6 ⟨rfl, hs⟩
  have HS6 := Lib.hid (show DSL w w6 d s exD3 (exS2.commit exD2 2).2.1 from hs)
  clear hs HS5
  go_wp2_with fail
  refine (mount_L HS6.out ex_f.1).mono ?_
  rintro e w7 ⟨s', rfl, hs⟩
  have HS7 := Lib.hid hs
  clear hs HS6
  have s1 := ptr_neS ⟨s', 0, none⟩
  have s2 := ptr_nilS ⟨s', 0, none⟩
  have nn := nil_nilS
  have RT := Lib.hid (root_L HS7.out)
  have GN := Lib.hid (gen_L HS7.out)
  have e1 : (ShS.new (lastH exD3).1).h.root = 2 := ex_f.2.1
  have e2 : (ShS.new (lastH exD3).1).h.gen = 2 := ex_f.2.2
  rw [e1] at RT
  rw [e2] at GN
  have B7 := Lib.hid HS7.out.below
  clear e1 e2 HS7
  go_wp2_with fail
  refine RT.out.mono ?_
  rintro e w8 ⟨rfl, rfl⟩
  go_wp2_with fail
  refine GN.out.mono ?_
  rintro e w8 ⟨rfl, rfl⟩
  go_wp2_with fail
  go_ret
  exact ⟨rfl, B7.out⟩
set_option maxHeartbeats 1600000 in
set_option maxRecDepth 20000 in
/-- A store that is made on a new disk. -/
theorem made_is (w : World) (n : Nat) (h8 : 8 ≤ n) (hn : n ≤ 640) :
    Calls Tryd.prog 8 #[.int .i64 (n : Int)] w fun e w' => ∃ d s, e = .returned (.tuple #[.pointer (some ⟨d, 0, none⟩), .pointer (some ⟨s, 0, none⟩)]) ∧ DSL w w' d s (wrHead (DkS.fresh n) fmtH).1 (ShS.new fmtH) := by
  have NY := Lib.hid fun w => new_yes w n h8 hn
  have WF := Lib.hid (wrHead_fresh n h8 hn)
  clear h8 hn
  go_enter Tryd.func8, Tryd.ntmps8
  go_wp2_with fail
  refine (NY.out _).mono ?_
  intro e w1 hm
  obtain ⟨d, rfl, hd⟩ := made_L (Below.refl _ _) hm
  clear hm NY
  have HD := Lib.hid hd
  clear hd
  have pn := ptr_nilD ⟨d, 0, none⟩
  go_wp2_with fail
  refine (format_L HD.out WF.out.1).mono ?_
  rintro e w3 ⟨s, rfl, hs⟩
  have HS3 := Lib.hid hs
  clear hs HD
  have sn := ptr_nilS ⟨s, 0, none⟩
  go_wp2_with fail
  go_ret2
  exact ⟨d, s, rfl, HS3.out⟩
end Go.Proofs.YtbjmbndeaobbeaaDoor
