/-
  The law NodeHangs of package bailiwicklaw10.
-/
import Derived.Test.YtkdcoipbdkmieaaNodeX
import Derived.Test.YtkdcoipbdkmieaaNodeHg
import Derived.Test.YtkdcoipbdkmieaaPairs
namespace Go.Proofs.Ytkdcoipbdkmieaa
open Go.RowKit
set_option linter.unusedVariables false
set_option linter.unusedSimpArgs false
set_option maxHeartbeats 6400000 in
set_option maxRecDepth 20000 in
theorem hangs_there (a : Option Addr) (cap : Nat) (L : List (Int × ByteArray)) (key : Int) (w : World) (hL : Prs w a L) (hk : ∀ p ∈ L, 0 ≤ p.1 ∧ p.1 ≤ 18446744073709551615) (hkey : 0 ≤ key ∧ key ≤ 18446744073709551615) (B : Nod) (hB : branchN L (min L.length 20) = B) (p : Nat) (hp : findN B key = (p, true)) (h0 : 0 < p) (hKp : B.K[p - 1]? = some key) :
    Calls Try.prog 7 #[.slice a L.length cap, .int .u64 key] w fun e w' => e = .returned (.bool true) ∧ Below w.heap.size w w' := by
  have EX := Lib.hid (examples_yes w)
  have BR := Lib.hid (fun w' (hb : Below w.heap.size w w') => branch_any a cap L w' (hL.below hb) hk)
  have bl := branchN_ok L (min L.length 20)
  have br := branchN_rise L (min L.length 20)
  rw [hB] at BR bl br
  have hlen : B.K.length ≤ 20 := by have := bl.2.2; omega
  have hpl := findN_le B key
  rw [hp] at hpl
  have hpl' : p ≤ B.K.length := hpl
  clear hL hk hB hpl
  generalize L.length = ln at *
  have FB := Lib.hid (fun ak av ac ck cv cc w' (h : NodR w' B ak av ac ck cv cc) => find_is B ak av ac ck cv cc w' h key p true (Lib.hid hp))
  have KV : Hid (∀ (w' : World) a', Rd w' a' (B.K.map ukey) → ∃ b off, a' = some ⟨b, off, none⟩ ∧ b < w'.heap.size ∧ w'.cell? ⟨b, off + (p - 1), none⟩ = some (.int .u64 key)) := Lib.hid (by
    intro w' a' h
    obtain ⟨hq, hq2⟩ := List.getElem?_eq_some_iff.1 hKp
    obtain ⟨b, off, q1, q2, q3⟩ := h.at (p - 1) (by simpa using hq)
    exact ⟨b, off, q1, q2, by rw [q3]; simp [ukey, hq2]⟩)
  have hpw : IntKind.i64.wrap ((p : Int) - 1) = ((p - 1 : Nat) : Int) := by rw [show (p : Int) - 1 = ((p - 1 : Nat) : Int) from by omega]; exact IntWalk.i64_in _ (by omega)
  have hpq : ((p - 1 : Nat) : Int) < (B.K.length : Int) := by omega
  have h0i : (0 : Int) < (p : Int) := by omega
  obtain ⟨pm, hpm⟩ : ∃ pm, p - 1 = pm := ⟨_, rfl⟩
  rw [hpm] at KV hpw hpq
  have hp1 : ¬ (p : Int) < 0 := by omega
  have hp2 : ¬ (B.K.length : Int) < (p : Int) := by omega
  clear hkey bl br hpl' hp h0 hKp hpm
  go_enter Try.func7, Try.ntmps7
  go_wp2_with fail
  refine EX.out.mono ?_
  rintro e w1 ⟨rfl, b1⟩
  have B1 := Lib.hid b1
  clear b1 EX
  go_wp2_with fail
  refine (BR.out _ B1.out).mono ?_
  rintro e w2 ⟨⟨bk, bv, bc, dk, dv, dc, rfl, hR2, -, -, -⟩, b2⟩
  have B2 := Lib.hid (chain B1.out b2)
  have R2 := Lib.hid hR2
  clear b2 hR2 BR B1
  simp only [nodV]
  go_wp2_with fail
  obtain ⟨w3, hw3'⟩ : ∃ w3, w2.alloc (.cells #[.bool B.leaf, .slice bk B.K.length dk, .slice bv B.V.length dv, .slice bc B.C.length dc] 26) = w3 := ⟨_, rfl⟩
  rw [hw3']
  have b3 : Below w2.heap.size w2 w3 := by rw [← hw3']; exact below_made _ _
  have X3 : Hid (w3.heap[w2.heap.size]? = some (.cells #[.bool B.leaf, .slice bk B.K.length dk, .slice bv B.V.length dv, .slice bc B.C.length dc] 26)) := Lib.hid (by rw [← hw3']; exact heap_alloc_new _ _)
  have R3 := Lib.hid (R2.out.below b3)
  have B3 := Lib.hid (chain B2.out b3)
  clear hw3' b3 R2 B2
  have y0 : w3.cell? ⟨w2.heap.size, 0, none⟩ = some (.bool B.leaf) := by rw [Go.Joins.cell_of_block X3.out]; rfl
  have y1 : w3.cell? ⟨w2.heap.size, 1, none⟩ = some (.slice bk B.K.length dk) := by rw [Go.Joins.cell_of_block X3.out]; rfl
  have y2 : w3.cell? ⟨w2.heap.size, 2, none⟩ = some (.slice bv B.V.length dv) := by rw [Go.Joins.cell_of_block X3.out]; rfl
  have y3 : w3.cell? ⟨w2.heap.size, 3, none⟩ = some (.slice bc B.C.length dc) := by rw [Go.Joins.cell_of_block X3.out]; rfl
  go_wp2_with fail
  refine (FB.out _ _ _ _ _ _ _ R3.out).mono ?_
  rintro e w4 ⟨rfl, b4⟩
  have X4 := Lib.hid (kept X3.out b4)
  have R4 := Lib.hid (R3.out.below b4)
  have B4 := Lib.hid (chain B3.out b4)
  clear b4 X3 R3 B3 FB y0 y1 y2 y3
  have y0 : w4.cell? ⟨w2.heap.size, 0, none⟩ = some (.bool B.leaf) := by rw [Go.Joins.cell_of_block X4.out]; rfl
  have y1 : w4.cell? ⟨w2.heap.size, 1, none⟩ = some (.slice bk B.K.length dk) := by rw [Go.Joins.cell_of_block X4.out]; rfl
  have y2 : w4.cell? ⟨w2.heap.size, 2, none⟩ = some (.slice bv B.V.length dv) := by rw [Go.Joins.cell_of_block X4.out]; rfl
  have y3 : w4.cell? ⟨w2.heap.size, 3, none⟩ = some (.slice bc B.C.length dc) := by rw [Go.Joins.cell_of_block X4.out]; rfl
  obtain ⟨vb, vo, rfl, hvb, hvc⟩ := KV.out _ _ R4.out.k
  clear KV
  go_wp2_with fail
  go_ret
  exact ⟨rfl, B4.out⟩

set_option maxHeartbeats 6400000 in
set_option maxRecDepth 20000 in
theorem hangs_zero (a : Option Addr) (cap : Nat) (L : List (Int × ByteArray)) (key : Int) (w : World) (hL : Prs w a L) (hk : ∀ p ∈ L, 0 ≤ p.1 ∧ p.1 ≤ 18446744073709551615) (hkey : 0 ≤ key ∧ key ≤ 18446744073709551615) (B : Nod) (hB : branchN L (min L.length 20) = B) (p : Nat) (hp : findN B key = (p, true)) (h0 : p = 0) (hn : hasN B key = false) :
    Calls Try.prog 7 #[.slice a L.length cap, .int .u64 key] w fun e w' => e = .returned (.bool true) ∧ Below w.heap.size w w' := by
  have EX := Lib.hid (examples_yes w)
  have BR := Lib.hid (fun w' (hb : Below w.heap.size w w') => branch_any a cap L w' (hL.below hb) hk)
  have bl := branchN_ok L (min L.length 20)
  have br := branchN_rise L (min L.length 20)
  rw [hB] at BR bl br
  have hlen : B.K.length ≤ 20 := by have := bl.2.2; omega
  have hpl := findN_le B key
  rw [hp] at hpl
  have hpl' : p ≤ B.K.length := hpl
  clear hL hk hB hpl
  generalize L.length = ln at *
  have FB := Lib.hid (fun ak av ac ck cv cc w' (h : NodR w' B ak av ac ck cv cc) => find_is B ak av ac ck cv cc w' h key p true (Lib.hid hp))
  obtain ⟨H, hH⟩ : ∃ H, hangN B (p : Int) key 600 = H := ⟨_, rfl⟩
  obtain ⟨hHl, hHw, hHk, hHc, hBc, hHf, hHp, hHu, hall⟩ := hang_facts B key 600 p bl.1 bl.2.1 br hp hn H hH
  obtain ⟨pn, hpn⟩ : ∃ pn, p + 1 = pn := ⟨_, rfl⟩
  rw [hpn] at hHf hHp
  have hpnl : pn < H.C.length := by omega
  rw [List.getElem?_eq_getElem hpnl] at hHp
  have hHp' : H.C[pn] = 600 := Option.some.inj hHp
  have HN := Lib.hid (fun ak av ac ck cv cc w' (h : NodR w' B ak av ac ck cv cc) => hang_is B ak av ac ck cv cc w' h p key 600 bl.1 bl.2.1 hpl' (by omega) hkey (by decide))
  rw [hH] at HN
  have FH := Lib.hid (fun ak av ac ck cv cc w' (h : NodR w' H ak av ac ck cv cc) => find_is H ak av ac ck cv cc w' h key pn true (Lib.hid hHf))
  have UN := Lib.hid (fun ak av ac ck cv cc w' (h : NodR w' H ak av ac ck cv cc) => unhang_is H ak av ac ck cv cc w' h p hHl hHw (by omega))
  rw [hHu] at UN
  have RF := Lib.hid (fun ak av ac ck cv cc w' => ref_is B ak av ac ck cv cc w')
  have ND := Lib.hid (fun ak av ac bk bv bc ck cv cc dk dv dc w' (hA : NodR w' B ak av ac ck cv cc) (hB : NodR w' B bk bv bc dk dv dc) => nodes_yes B ak av ac bk bv bc ck cv cc dk dv dc w' hA hB)
  have LP : Hid (∀ k, k < B.K.length → ∃ (ka kb : Nat) (x kk : Int), ka < B.C.length ∧ kb < H.C.length ∧
      (∀ (w' : World) ak av ac ck cv cc, NodR w' B ak av ac ck cv cc → Calls Try.prog 12 #[nodV B ak av ac ck cv cc, .int .u64 kk] w' fun e w'' => e = .returned (.tuple #[.int .i64 (ka : Int), .bool true]) ∧ Below w'.heap.size w' w'') ∧
      (∀ (w' : World) ak av ac ck cv cc, NodR w' H ak av ac ck cv cc → Calls Try.prog 12 #[nodV H ak av ac ck cv cc, .int .u64 kk] w' fun e w'' => e = .returned (.tuple #[.int .i64 (kb : Int), .bool true]) ∧ Below w'.heap.size w' w'') ∧
      (∀ (w' : World) a', Rd w' a' (B.K.map ukey) → ∃ b off, a' = some ⟨b, off, none⟩ ∧ b < w'.heap.size ∧ w'.cell? ⟨b, off + k, none⟩ = some (.int .u64 kk)) ∧
      (∀ (w' : World) a', Rd w' a' (B.C.map ikid) → ∃ b off, a' = some ⟨b, off, none⟩ ∧ b < w'.heap.size ∧ w'.cell? ⟨b, off + ka, none⟩ = some (.int .i64 x)) ∧
      (∀ (w' : World) a', Rd w' a' (H.C.map ikid) → ∃ b off, a' = some ⟨b, off, none⟩ ∧ b < w'.heap.size ∧ w'.cell? ⟨b, off + kb, none⟩ = some (.int .i64 x))) := Lib.hid (by
    intro k hk
    obtain ⟨ka, kb, f1, f2, h1, h2, h3⟩ := hall k hk
    refine ⟨ka, kb, B.C[ka], B.K[k], h1, h2, fun w' ak av ac ck cv cc h => find_is B ak av ac ck cv cc w' h _ ka true (Lib.hid f1), fun w' ak av ac ck cv cc h => find_is H ak av ac ck cv cc w' h _ kb true (Lib.hid f2), fun w' a' h => ?_, fun w' a' h => ?_, fun w' a' h => ?_⟩
    · obtain ⟨b, off, q1, q2, q3⟩ := h.at k (by simpa using hk)
      exact ⟨b, off, q1, q2, by rw [q3]; simp [ukey]⟩
    · obtain ⟨b, off, q1, q2, q3⟩ := h.at ka (by simpa using h1)
      exact ⟨b, off, q1, q2, by rw [q3]; simp [ikid]⟩
    · obtain ⟨b, off, q1, q2, q3⟩ := h.at kb (by simpa using h2)
      exact ⟨b, off, q1, q2, by rw [q3, h3]; simp [ikid]⟩)
  have KP : Hid (∀ (w' : World) a', Rd w' a' (H.C.map ikid) → ∃ b off, a' = some ⟨b, off, none⟩ ∧ b < w'.heap.size ∧ w'.cell? ⟨b, off + pn, none⟩ = some (.int .i64 600)) := Lib.hid (by
    intro w' a' h
    obtain ⟨b, off, q1, q2, q3⟩ := h.at pn (by simpa using hpnl)
    exact ⟨b, off, q1, q2, by rw [q3]; simp [ikid, hHp']⟩)
  have hp1 : ¬ (p : Int) < 0 := by omega
  have hp2 : ¬ (B.K.length : Int) < (p : Int) := by omega
  have h0i : ¬ (0 : Int) < (p : Int) := by omega
  have hw1 : IntKind.i64.wrap ((B.K.length : Int) + 1) = (H.K.length : Int) := by rw [show (H.K.length : Int) = (B.K.length : Int) + 1 from by omega]; exact IntWalk.i64_in _ (by omega)
  have hw2 : IntKind.i64.wrap ((B.C.length : Int) + 1) = (H.C.length : Int) := by rw [show (H.C.length : Int) = (B.C.length : Int) + 1 from by omega]; exact IntWalk.i64_in _ (by omega)
  have hw3 : IntKind.i64.wrap ((p : Int) + 1) = (pn : Int) := by rw [← hpn]; exact IntWalk.i64_in _ (by omega)
  have hpni : (pn : Int) < (H.C.length : Int) := by omega
  clear hHl hHw hHk hHc hBc hHf hHp hHu hall hHp' hpnl hpn hn hH
  clear hkey bl br hpl' hp h0
  go_enter Try.func7, Try.ntmps7
  go_wp2_with fail
  refine EX.out.mono ?_
  rintro e w1 ⟨rfl, b1⟩
  have B1 := Lib.hid b1
  clear b1 EX
  go_wp2_with fail
  refine (BR.out _ B1.out).mono ?_
  rintro e w2 ⟨⟨bk, bv, bc, dk, dv, dc, rfl, hR2, -, -, -⟩, b2⟩
  have B2 := Lib.hid (chain B1.out b2)
  have R2 := Lib.hid hR2
  clear b2 hR2 BR B1
  simp only [nodV]
  go_wp2_with fail
  obtain ⟨w3, hw3'⟩ : ∃ w3, w2.alloc (.cells #[.bool B.leaf, .slice bk B.K.length dk, .slice bv B.V.length dv, .slice bc B.C.length dc] 26) = w3 := ⟨_, rfl⟩
  rw [hw3']
  have b3 : Below w2.heap.size w2 w3 := by rw [← hw3']; exact below_made _ _
  have X3 : Hid (w3.heap[w2.heap.size]? = some (.cells #[.bool B.leaf, .slice bk B.K.length dk, .slice bv B.V.length dv, .slice bc B.C.length dc] 26)) := Lib.hid (by rw [← hw3']; exact heap_alloc_new _ _)
  have R3 := Lib.hid (R2.out.below b3)
  have B3 := Lib.hid (chain B2.out b3)
  clear hw3' b3 R2 B2
  have y0 : w3.cell? ⟨w2.heap.size, 0, none⟩ = some (.bool B.leaf) := by rw [Go.Joins.cell_of_block X3.out]; rfl
  have y1 : w3.cell? ⟨w2.heap.size, 1, none⟩ = some (.slice bk B.K.length dk) := by rw [Go.Joins.cell_of_block X3.out]; rfl
  have y2 : w3.cell? ⟨w2.heap.size, 2, none⟩ = some (.slice bv B.V.length dv) := by rw [Go.Joins.cell_of_block X3.out]; rfl
  have y3 : w3.cell? ⟨w2.heap.size, 3, none⟩ = some (.slice bc B.C.length dc) := by rw [Go.Joins.cell_of_block X3.out]; rfl
  go_wp2_with fail
  refine (FB.out _ _ _ _ _ _ _ R3.out).mono ?_
  rintro e w4 ⟨rfl, b4⟩
  have X4 := Lib.hid (kept X3.out b4)
  have R4 := Lib.hid (R3.out.below b4)
  have B4 := Lib.hid (chain B3.out b4)
  clear b4 X3 R3 B3 FB y0 y1 y2 y3
  have y0 : w4.cell? ⟨w2.heap.size, 0, none⟩ = some (.bool B.leaf) := by rw [Go.Joins.cell_of_block X4.out]; rfl
  have y1 : w4.cell? ⟨w2.heap.size, 1, none⟩ = some (.slice bk B.K.length dk) := by rw [Go.Joins.cell_of_block X4.out]; rfl
  have y2 : w4.cell? ⟨w2.heap.size, 2, none⟩ = some (.slice bv B.V.length dv) := by rw [Go.Joins.cell_of_block X4.out]; rfl
  have y3 : w4.cell? ⟨w2.heap.size, 3, none⟩ = some (.slice bc B.C.length dc) := by rw [Go.Joins.cell_of_block X4.out]; rfl
  go_wp2_with fail
  refine (HN.out _ _ _ _ _ _ _ R4.out).mono ?_
  rintro e w5 ⟨⟨hk', hv, hc, ek, ev, ec, rfl, hR5, -, -, -⟩, b5⟩
  have X5 := Lib.hid (kept X4.out b5)
  have R5 := Lib.hid (R4.out.below b5)
  have B5 := Lib.hid (chain B4.out b5)
  have G5 := Lib.hid hR5
  clear b5 hR5 X4 R4 B4 HN y0 y1 y2 y3
  simp only [nodV]
  go_upto_region 11 with fail
  obtain ⟨w6, hw6'⟩ : ∃ w6, w5.alloc (.cells #[.bool H.leaf, .slice hk' H.K.length ek, .slice hv H.V.length ev, .slice hc H.C.length ec] 26) = w6 := ⟨_, rfl⟩
  rw [hw6']
  have b6 : Below w5.heap.size w5 w6 := by rw [← hw6']; exact below_made _ _
  have Y6 : Hid (w6.heap[w5.heap.size]? = some (.cells #[.bool H.leaf, .slice hk' H.K.length ek, .slice hv H.V.length ev, .slice hc H.C.length ec] 26)) := Lib.hid (by rw [← hw6']; exact heap_alloc_new _ _)
  have X6 := Lib.hid (kept X5.out b6)
  have R6 := Lib.hid (R5.out.below b6)
  have G6 := Lib.hid (G5.out.below b6)
  have B6 := Lib.hid (chain B5.out b6)
  clear hw6' b6 X5 R5 G5 B5
  have y0 : w6.cell? ⟨w2.heap.size, 0, none⟩ = some (.bool B.leaf) := by rw [Go.Joins.cell_of_block X6.out]; rfl
  have y1 : w6.cell? ⟨w2.heap.size, 1, none⟩ = some (.slice bk B.K.length dk) := by rw [Go.Joins.cell_of_block X6.out]; rfl
  have y2 : w6.cell? ⟨w2.heap.size, 2, none⟩ = some (.slice bv B.V.length dv) := by rw [Go.Joins.cell_of_block X6.out]; rfl
  have y3 : w6.cell? ⟨w2.heap.size, 3, none⟩ = some (.slice bc B.C.length dc) := by rw [Go.Joins.cell_of_block X6.out]; rfl
  have z0 : w6.cell? ⟨w5.heap.size, 0, none⟩ = some (.bool H.leaf) := by rw [Go.Joins.cell_of_block Y6.out]; rfl
  have z1 : w6.cell? ⟨w5.heap.size, 1, none⟩ = some (.slice hk' H.K.length ek) := by rw [Go.Joins.cell_of_block Y6.out]; rfl
  have z2 : w6.cell? ⟨w5.heap.size, 2, none⟩ = some (.slice hv H.V.length ev) := by rw [Go.Joins.cell_of_block Y6.out]; rfl
  have z3 : w6.cell? ⟨w5.heap.size, 3, none⟩ = some (.slice hc H.C.length ec) := by rw [Go.Joins.cell_of_block Y6.out]; rfl
  go_wp2_with fail
  refine (FH.out _ _ _ _ _ _ _ G6.out).mono ?_
  rintro e w7 ⟨rfl, b7⟩
  have Y7 := Lib.hid (kept Y6.out b7)
  have X7 := Lib.hid (kept X6.out b7)
  have R7 := Lib.hid (R6.out.below b7)
  have G7 := Lib.hid (G6.out.below b7)
  have B7 := Lib.hid (chain B6.out b7)
  clear b7 X6 Y6 R6 G6 B6 FH y0 y1 y2 y3 z0 z1 z2 z3 hw1 hw2
  go_wp2_with fail
  refine wp_region_held_drew (S := fun w' => Below w7.heap.size w7 w') (by kernel_rfl) (Below.refl w7.heap.size w7).drew (fun hS => ?_)
  refine held_take (i := 0) 83 (v := ?vq0x1) rfl rfl (by kernel_rfl) (by kernel_rfl) (by kernel_rfl) (fun _ _ _ h => h) hS (by rfl) ?hq0x1 ?rq0x1
  case hq0x1 =>
    intro w9 s9
    have X9 := kept Y7.out s9
    have c0 : w9.cell? ⟨w5.heap.size, 0, none⟩ = some (.bool H.leaf) := by rw [Go.Joins.cell_of_block X9]; rfl
    have c1 : w9.cell? ⟨w5.heap.size, 1, none⟩ = some (.slice hk' H.K.length ek) := by rw [Go.Joins.cell_of_block X9]; rfl
    have c2 : w9.cell? ⟨w5.heap.size, 2, none⟩ = some (.slice hv H.V.length ev) := by rw [Go.Joins.cell_of_block X9]; rfl
    have c3 : w9.cell? ⟨w5.heap.size, 3, none⟩ = some (.slice hc H.C.length ec) := by rw [Go.Joins.cell_of_block X9]; rfl
    clear s9
    go_simp
    try (with_reducible rfl)
  simp only [List.setIfInBounds_toArray, List.set_cons_zero, List.set_cons_succ]
  refine held_take (i := 1) 84 (v := ?vq1x2) rfl rfl (by kernel_rfl) (by kernel_rfl) (by kernel_rfl) (fun _ _ _ h => h) hS (by rfl) ?hq1x2 ?rq1x2
  case hq1x2 =>
    intro w9 s9
    clear s9
    go_simp
    try (with_reducible rfl)
  simp only [List.setIfInBounds_toArray, List.set_cons_zero, List.set_cons_succ]
  refine held_take (i := 3) 86 (v := ?vq3x3) rfl rfl (by kernel_rfl) (by kernel_rfl) (by kernel_rfl) (fun _ _ _ h => h) hS (by rfl) ?hq3x3 ?rq3x3
  case hq3x3 =>
    intro w9 s9
    have X9 := kept X7.out s9
    have c0 : w9.cell? ⟨w2.heap.size, 0, none⟩ = some (.bool B.leaf) := by rw [Go.Joins.cell_of_block X9]; rfl
    have c1 : w9.cell? ⟨w2.heap.size, 1, none⟩ = some (.slice bk B.K.length dk) := by rw [Go.Joins.cell_of_block X9]; rfl
    have c2 : w9.cell? ⟨w2.heap.size, 2, none⟩ = some (.slice bv B.V.length dv) := by rw [Go.Joins.cell_of_block X9]; rfl
    have c3 : w9.cell? ⟨w2.heap.size, 3, none⟩ = some (.slice bc B.C.length dc) := by rw [Go.Joins.cell_of_block X9]; rfl
    clear s9
    go_simp
    try (with_reducible rfl)
  simp only [List.setIfInBounds_toArray, List.set_cons_zero, List.set_cons_succ]
  refine held_step (i := 2) rfl (by kernel_rfl) (fun K hK => ?_)
  have HK := Lib.hid hK
  clear hK
  go_simp
  go_wp2_with fail
  refine (UN.out _ _ _ _ _ _ _ (G7.out.below hS)).mono ?_
  rintro e u5 ⟨⟨uk, uv, uc, ua, ub, ud, rfl, hU, -, -, -⟩, b5⟩
  have hUH := Lib.hid hU
  clear hU
  simp only [nodV]
  refine HK.out _ _ ?_ ?_
  · exact chain hS b5
  clear HK K
  try simp only [Act.put, List.setIfInBounds_toArray, List.set_cons_zero, List.set_cons_succ]
  have hS9 := chain hS b5
  clear hS
  have hS := hS9
  clear hS9
  clear b5
  refine held_step (i := 4) rfl (by kernel_rfl) (fun K hK => ?_)
  have HK := Lib.hid hK
  clear hK
  go_simp
  go_wp2_with fail
  refine (RF.out _ _ _ _ _ _ _).mono ?_
  rintro e u6 ⟨rfl, b6⟩
  have hUG := Lib.hid (hUH.out.below b6)
  clear hUH
  have hUH := hUG
  clear hUG
  simp only [nodV]
  refine HK.out _ _ ?_ ?_
  · exact chain hS b6
  clear HK K
  try simp only [Act.put, List.setIfInBounds_toArray, List.set_cons_zero, List.set_cons_succ]
  have hS9 := chain hS b6
  clear hS
  have hS := hS9
  clear hS9
  clear b6
  refine held_step (i := 5) rfl (by kernel_rfl) (fun K hK => ?_)
  have HK := Lib.hid hK
  clear hK
  go_simp
  go_wp2_with fail
  refine (ND.out _ _ _ _ _ _ _ _ _ _ _ _ _ hUH.out (R7.out.below hS)).mono ?_
  rintro e u7 ⟨rfl, b7⟩
  refine HK.out _ _ ?_ ?_
  · exact chain hS b7
  clear HK K
  try simp only [Act.put, List.setIfInBounds_toArray, List.set_cons_zero, List.set_cons_succ]
  have hS9 := chain hS b7
  clear hS
  have hS := hS9
  clear hS9
  clear b7
  refine held_take (i := 6) 12 (v := ?vq6x4) rfl rfl (by kernel_rfl) (by kernel_rfl) (by kernel_rfl) (fun _ _ _ h => h) hS (by rfl) ?hq6x4 ?rq6x4
  case hq6x4 =>
    intro w9 s9
    clear s9
    go_simp
    try (with_reducible rfl)
  simp only [List.setIfInBounds_toArray, List.set_cons_zero, List.set_cons_succ]
  refine wpAnyH_done (by kernel_rfl) ?_ _
  have H14 := Lib.hid hS
  clear hS hUH
  have X8 := Lib.hid (kept X7.out H14.out)
  have Y8 := Lib.hid (kept Y7.out H14.out)
  have R8 := Lib.hid (R7.out.below H14.out)
  have G8 := Lib.hid (G7.out.below H14.out)
  have B8 := Lib.hid (chain B7.out H14.out)
  clear X7 Y7 R7 G7 B7 H14
  go_wp2_with fail
  go_loopw [13] (fun k wr => ∃ j : Nat, j ≤ B.K.length ∧ k = .int .i64 (j : Int) ∧ Below u7.heap.size u7 wr) (fun k _ => B.K.length + 1 - (intOf k).toNat)
  case atStart => exact ⟨0, Nat.zero_le _, rfl, Below.refl _ _⟩
  case round =>
    obtain ⟨j, hj, rfl, hBw⟩ := hrel
    have HW := Lib.hid hBw
    clear hBw
    have XW := Lib.hid (kept X8.out HW.out)
    have YW := Lib.hid (kept Y8.out HW.out)
    have RW := Lib.hid (R8.out.below HW.out)
    have GW := Lib.hid (G8.out.below HW.out)
    have y0 : wr.cell? ⟨w2.heap.size, 0, none⟩ = some (.bool B.leaf) := by rw [Go.Joins.cell_of_block XW.out]; rfl
    have y1 : wr.cell? ⟨w2.heap.size, 1, none⟩ = some (.slice bk B.K.length dk) := by rw [Go.Joins.cell_of_block XW.out]; rfl
    have y2 : wr.cell? ⟨w2.heap.size, 2, none⟩ = some (.slice bv B.V.length dv) := by rw [Go.Joins.cell_of_block XW.out]; rfl
    have y3 : wr.cell? ⟨w2.heap.size, 3, none⟩ = some (.slice bc B.C.length dc) := by rw [Go.Joins.cell_of_block XW.out]; rfl
    by_cases hlt : j < B.K.length
    · have hji : (j : Int) < (B.K.length : Int) := by omega
      obtain ⟨ka, kb, x, kk, hka, hkb, f1, f2, f3, f4, f5⟩ := LP.out j hlt
      have hka1 : decide ((B.C.length : Int) ≤ (ka : Int)) = false := by simp; omega
      have hkb1 : decide ((H.C.length : Int) ≤ (kb : Int)) = false := by simp; omega
      have hka3 : decide (B.C.length ≤ ka) = false := by simp; omega
      have hkb3 : decide (H.C.length ≤ kb) = false := by simp; omega
      have hka2 : (ka : Int) < (B.C.length : Int) := by omega
      have hkb2 : (kb : Int) < (H.C.length : Int) := by omega
      have F1 := Lib.hid f1
      have F2 := Lib.hid f2
      have F3 := Lib.hid f3
      have F4 := Lib.hid f4
      have F5 := Lib.hid f5
      clear f1 f2 f3 f4 f5 hka hkb
      obtain ⟨xb, xo, hxe, -, -⟩ := F3.out _ _ RW.out.k
      cases hxe
      obtain ⟨zb, zo, rfl, -, -⟩ := F4.out _ _ RW.out.c
      obtain ⟨vb', vo', rfl, -, -⟩ := F5.out _ _ GW.out.c
      have FK : Hid (∀ w', Below wr.heap.size wr w' → w'.cell? ⟨xb, xo + j, none⟩ = some (.int .u64 kk)) := Lib.hid (fun w' hb => by
        obtain ⟨b, off, he, -, hc⟩ := F3.out _ _ (RW.out.below hb).k
        cases he
        exact hc)
      go_wp2_with fail
      refine wp_region_held_drew (S := fun w' => Below wr.heap.size wr w') (by kernel_rfl) (Below.refl wr.heap.size wr).drew (fun hS => ?_)
      refine held_take (i := 0) 97 (v := ?vl0x1) rfl rfl (by kernel_rfl) (by kernel_rfl) (by kernel_rfl) (fun _ _ _ h => h) hS (by rfl) ?hl0x1 ?rl0x1
      case hl0x1 =>
        intro w9 s9
        have X9 := kept XW.out s9
        have c0 : w9.cell? ⟨w2.heap.size, 0, none⟩ = some (.bool B.leaf) := by rw [Go.Joins.cell_of_block X9]; rfl
        have c1 : w9.cell? ⟨w2.heap.size, 1, none⟩ = some (.slice (some ⟨xb, xo, none⟩) B.K.length dk) := by rw [Go.Joins.cell_of_block X9]; rfl
        have c2 : w9.cell? ⟨w2.heap.size, 2, none⟩ = some (.slice bv B.V.length dv) := by rw [Go.Joins.cell_of_block X9]; rfl
        have c3 : w9.cell? ⟨w2.heap.size, 3, none⟩ = some (.slice (some ⟨zb, zo, none⟩) B.C.length dc) := by rw [Go.Joins.cell_of_block X9]; rfl
        clear s9
        go_simp
        try (with_reducible rfl)
      simp only [List.setIfInBounds_toArray, List.set_cons_zero, List.set_cons_succ]
      refine held_take (i := 1) 98 (v := ?vl1x2) rfl rfl (by kernel_rfl) (by kernel_rfl) (by kernel_rfl) (fun _ _ _ h => h) hS (by rfl) ?hl1x2 ?rl1x2
      case hl1x2 =>
        intro w9 s9
        clear s9
        go_simp
        try (with_reducible rfl)
      simp only [List.setIfInBounds_toArray, List.set_cons_zero, List.set_cons_succ]
      refine held_take (i := 2) 99 (v := ?vl2x3) rfl rfl (by kernel_rfl) (by kernel_rfl) (by kernel_rfl) (fun _ _ _ h => h) hS (by rfl) ?hl2x3 ?rl2x3
      case hl2x3 =>
        intro w9 s9
        have X9 := kept XW.out s9
        have c0 : w9.cell? ⟨w2.heap.size, 0, none⟩ = some (.bool B.leaf) := by rw [Go.Joins.cell_of_block X9]; rfl
        have c1 : w9.cell? ⟨w2.heap.size, 1, none⟩ = some (.slice (some ⟨xb, xo, none⟩) B.K.length dk) := by rw [Go.Joins.cell_of_block X9]; rfl
        have c2 : w9.cell? ⟨w2.heap.size, 2, none⟩ = some (.slice bv B.V.length dv) := by rw [Go.Joins.cell_of_block X9]; rfl
        have c3 : w9.cell? ⟨w2.heap.size, 3, none⟩ = some (.slice (some ⟨zb, zo, none⟩) B.C.length dc) := by rw [Go.Joins.cell_of_block X9]; rfl
        clear s9
        go_simp
        try (with_reducible rfl)
      simp only [List.setIfInBounds_toArray, List.set_cons_zero, List.set_cons_succ]
      refine held_take (i := 3) 100 (v := ?vl3x4) rfl rfl (by kernel_rfl) (by kernel_rfl) (by kernel_rfl) (fun _ _ _ h => h) hS (by rfl) ?hl3x4 ?rl3x4
      case hl3x4 =>
        intro w9 s9
        clear s9
        go_simp
        try (with_reducible rfl)
      simp only [List.setIfInBounds_toArray, List.set_cons_zero, List.set_cons_succ]
      refine held_take (i := 4) 101 (v := ?vl4x5) rfl rfl (by kernel_rfl) (by kernel_rfl) (by kernel_rfl) (fun _ _ _ h => h) hS (by rfl) ?hl4x5 ?rl4x5
      case hl4x5 =>
        intro w9 s9
        clear s9
        go_simp
        try (with_reducible rfl)
      simp only [List.setIfInBounds_toArray, List.set_cons_zero, List.set_cons_succ]
      refine held_take (i := 5) 102 (v := ?vl5x6) rfl rfl (by kernel_rfl) (by kernel_rfl) (by kernel_rfl) (fun _ _ _ h => h) hS (by rfl) ?hl5x6 ?rl5x6
      case hl5x6 =>
        intro w9 s9
        have c := FK.out _ s9
        clear s9
        go_simp
        try (with_reducible rfl)
      simp only [List.setIfInBounds_toArray, List.set_cons_zero, List.set_cons_succ]
      refine held_step (i := 6) rfl (by kernel_rfl) (fun K hK => ?_)
      have HK := Lib.hid hK
      clear hK
      go_simp
      go_wp2_with fail
      refine (F1.out _ _ _ _ _ _ _ (RW.out.below hS)).mono ?_
      rintro e v5 ⟨rfl, b5⟩
      refine HK.out _ _ ?_ ?_
      · exact chain hS b5
      clear HK K
      try simp only [Act.put, List.setIfInBounds_toArray, List.set_cons_zero, List.set_cons_succ]
      have hS9 := chain hS b5
      clear hS
      have hS := hS9
      clear hS9
      clear b5
      refine held_take (i := 7) 96 (v := ?vl7x7) rfl rfl (by kernel_rfl) (by kernel_rfl) (by kernel_rfl) (fun _ _ _ h => h) hS (by rfl) ?hl7x7 ?rl7x7
      case hl7x7 =>
        intro w9 s9
        clear s9
        go_simp
        try (with_reducible rfl)
      simp only [List.setIfInBounds_toArray, List.set_cons_zero, List.set_cons_succ]
      refine held_take (i := 8) 104 (v := ?vl8x8) rfl rfl (by kernel_rfl) (by kernel_rfl) (by kernel_rfl) (fun _ _ _ h => h) hS (by rfl) ?hl8x8 ?rl8x8
      case hl8x8 =>
        intro w9 s9
        clear s9
        go_simp
        try (with_reducible rfl)
      simp only [List.setIfInBounds_toArray, List.set_cons_zero, List.set_cons_succ]
      refine held_take (i := 9) 105 (v := ?vl9x9) rfl rfl (by kernel_rfl) (by kernel_rfl) (by kernel_rfl) (fun _ _ _ h => h) hS (by rfl) ?hl9x9 ?rl9x9
      case hl9x9 =>
        intro w9 s9
        clear s9
        go_simp
        try (with_reducible rfl)
      simp only [List.setIfInBounds_toArray, List.set_cons_zero, List.set_cons_succ]
      refine held_take (i := 10) 14 (v := ?vl10x10) rfl rfl (by kernel_rfl) (by kernel_rfl) (by kernel_rfl) (fun _ _ _ h => h) hS (by rfl) ?hl10x10 ?rl10x10
      case hl10x10 =>
        intro w9 s9
        clear s9
        go_simp
        try (with_reducible rfl)
      simp only [List.setIfInBounds_toArray, List.set_cons_zero, List.set_cons_succ]
      refine held_take (i := 11) 15 (v := ?vl11x11) rfl rfl (by kernel_rfl) (by kernel_rfl) (by kernel_rfl) (fun _ _ _ h => h) hS (by rfl) ?hl11x11 ?rl11x11
      case hl11x11 =>
        intro w9 s9
        clear s9
        go_simp
        try (with_reducible rfl)
      simp only [List.setIfInBounds_toArray, List.set_cons_zero, List.set_cons_succ]
      refine wpAnyH_done (by kernel_rfl) ?_ _
      have H18 := Lib.hid hS
      clear hS
      have XV := Lib.hid (kept XW.out H18.out)
      have YV := Lib.hid (kept YW.out H18.out)
      have RV := Lib.hid (RW.out.below H18.out)
      have GV := Lib.hid (GW.out.below H18.out)
      have HV := Lib.hid (chain HW.out H18.out)
      have FV : Hid (∀ w', Below v5.heap.size v5 w' → w'.cell? ⟨xb, xo + j, none⟩ = some (.int .u64 kk)) := Lib.hid (fun w' hb => FK.out w' (chain H18.out hb))
      clear XW YW RW GW HW FK H18 y0 y1 y2 y3
      go_wp2_with fail
      refine wp_region_held_drew (S := fun w' => Below v5.heap.size v5 w') (by kernel_rfl) (Below.refl v5.heap.size v5).drew (fun hS => ?_)
      refine held_take (i := 0) 107 (v := ?vm0x1) rfl rfl (by kernel_rfl) (by kernel_rfl) (by kernel_rfl) (fun _ _ _ h => h) hS (by rfl) ?hm0x1 ?rm0x1
      case hm0x1 =>
        intro w9 s9
        have X9 := kept YV.out s9
        have c0 : w9.cell? ⟨w5.heap.size, 0, none⟩ = some (.bool H.leaf) := by rw [Go.Joins.cell_of_block X9]; rfl
        have c1 : w9.cell? ⟨w5.heap.size, 1, none⟩ = some (.slice hk' H.K.length ek) := by rw [Go.Joins.cell_of_block X9]; rfl
        have c2 : w9.cell? ⟨w5.heap.size, 2, none⟩ = some (.slice hv H.V.length ev) := by rw [Go.Joins.cell_of_block X9]; rfl
        have c3 : w9.cell? ⟨w5.heap.size, 3, none⟩ = some (.slice (some ⟨vb', vo', none⟩) H.C.length ec) := by rw [Go.Joins.cell_of_block X9]; rfl
        clear s9
        go_simp
        try (with_reducible rfl)
      simp only [List.setIfInBounds_toArray, List.set_cons_zero, List.set_cons_succ]
      refine held_take (i := 1) 108 (v := ?vm1x2) rfl rfl (by kernel_rfl) (by kernel_rfl) (by kernel_rfl) (fun _ _ _ h => h) hS (by rfl) ?hm1x2 ?rm1x2
      case hm1x2 =>
        intro w9 s9
        clear s9
        go_simp
        try (with_reducible rfl)
      simp only [List.setIfInBounds_toArray, List.set_cons_zero, List.set_cons_succ]
      refine held_take (i := 2) 109 (v := ?vm2x3) rfl rfl (by kernel_rfl) (by kernel_rfl) (by kernel_rfl) (fun _ _ _ h => h) hS (by rfl) ?hm2x3 ?rm2x3
      case hm2x3 =>
        intro w9 s9
        have X9 := kept XV.out s9
        have c0 : w9.cell? ⟨w2.heap.size, 0, none⟩ = some (.bool B.leaf) := by rw [Go.Joins.cell_of_block X9]; rfl
        have c1 : w9.cell? ⟨w2.heap.size, 1, none⟩ = some (.slice (some ⟨xb, xo, none⟩) B.K.length dk) := by rw [Go.Joins.cell_of_block X9]; rfl
        have c2 : w9.cell? ⟨w2.heap.size, 2, none⟩ = some (.slice bv B.V.length dv) := by rw [Go.Joins.cell_of_block X9]; rfl
        have c3 : w9.cell? ⟨w2.heap.size, 3, none⟩ = some (.slice (some ⟨zb, zo, none⟩) B.C.length dc) := by rw [Go.Joins.cell_of_block X9]; rfl
        clear s9
        go_simp
        try (with_reducible rfl)
      simp only [List.setIfInBounds_toArray, List.set_cons_zero, List.set_cons_succ]
      refine held_take (i := 3) 110 (v := ?vm3x4) rfl rfl (by kernel_rfl) (by kernel_rfl) (by kernel_rfl) (fun _ _ _ h => h) hS (by rfl) ?hm3x4 ?rm3x4
      case hm3x4 =>
        intro w9 s9
        clear s9
        go_simp
        try (with_reducible rfl)
      simp only [List.setIfInBounds_toArray, List.set_cons_zero, List.set_cons_succ]
      refine held_take (i := 4) 111 (v := ?vm4x5) rfl rfl (by kernel_rfl) (by kernel_rfl) (by kernel_rfl) (fun _ _ _ h => h) hS (by rfl) ?hm4x5 ?rm4x5
      case hm4x5 =>
        intro w9 s9
        clear s9
        go_simp
        try (with_reducible rfl)
      simp only [List.setIfInBounds_toArray, List.set_cons_zero, List.set_cons_succ]
      refine held_take (i := 5) 112 (v := ?vm5x6) rfl rfl (by kernel_rfl) (by kernel_rfl) (by kernel_rfl) (fun _ _ _ h => h) hS (by rfl) ?hm5x6 ?rm5x6
      case hm5x6 =>
        intro w9 s9
        have c := FV.out _ s9
        clear s9
        go_simp
        try (with_reducible rfl)
      simp only [List.setIfInBounds_toArray, List.set_cons_zero, List.set_cons_succ]
      refine held_step (i := 6) rfl (by kernel_rfl) (fun K hK => ?_)
      have HK := Lib.hid hK
      clear hK
      go_simp
      go_wp2_with fail
      refine (F2.out _ _ _ _ _ _ _ (GV.out.below hS)).mono ?_
      rintro e v6 ⟨rfl, b6⟩
      refine HK.out _ _ ?_ ?_
      · exact chain hS b6
      clear HK K
      try simp only [Act.put, List.setIfInBounds_toArray, List.set_cons_zero, List.set_cons_succ]
      have hS9 := chain hS b6
      clear hS
      have hS := hS9
      clear hS9
      clear b6
      refine held_take (i := 7) 106 (v := ?vm7x7) rfl rfl (by kernel_rfl) (by kernel_rfl) (by kernel_rfl) (fun _ _ _ h => h) hS (by rfl) ?hm7x7 ?rm7x7
      case hm7x7 =>
        intro w9 s9
        clear s9
        go_simp
        try (with_reducible rfl)
      simp only [List.setIfInBounds_toArray, List.set_cons_zero, List.set_cons_succ]
      refine held_take (i := 8) 114 (v := ?vm8x8) rfl rfl (by kernel_rfl) (by kernel_rfl) (by kernel_rfl) (fun _ _ _ h => h) hS (by rfl) ?hm8x8 ?rm8x8
      case hm8x8 =>
        intro w9 s9
        clear s9
        go_simp
        try (with_reducible rfl)
      simp only [List.setIfInBounds_toArray, List.set_cons_zero, List.set_cons_succ]
      refine held_take (i := 9) 115 (v := ?vm9x9) rfl rfl (by kernel_rfl) (by kernel_rfl) (by kernel_rfl) (fun _ _ _ h => h) hS (by rfl) ?hm9x9 ?rm9x9
      case hm9x9 =>
        intro w9 s9
        clear s9
        go_simp
        try (with_reducible rfl)
      simp only [List.setIfInBounds_toArray, List.set_cons_zero, List.set_cons_succ]
      refine held_take (i := 10) 16 (v := ?vm10x10) rfl rfl (by kernel_rfl) (by kernel_rfl) (by kernel_rfl) (fun _ _ _ h => h) hS (by rfl) ?hm10x10 ?rm10x10
      case hm10x10 =>
        intro w9 s9
        clear s9
        go_simp
        try (with_reducible rfl)
      simp only [List.setIfInBounds_toArray, List.set_cons_zero, List.set_cons_succ]
      refine held_take (i := 11) 17 (v := ?vm11x11) rfl rfl (by kernel_rfl) (by kernel_rfl) (by kernel_rfl) (fun _ _ _ h => h) hS (by rfl) ?hm11x11 ?rm11x11
      case hm11x11 =>
        intro w9 s9
        clear s9
        go_simp
        try (with_reducible rfl)
      simp only [List.setIfInBounds_toArray, List.set_cons_zero, List.set_cons_succ]
      refine wpAnyH_done (by kernel_rfl) ?_ _
      have H19 := Lib.hid hS
      clear hS
      have XU := Lib.hid (kept XV.out H19.out)
      have YU := Lib.hid (kept YV.out H19.out)
      have RU := Lib.hid (RV.out.below H19.out)
      have GU := Lib.hid (GV.out.below H19.out)
      have HU := Lib.hid (chain HV.out H19.out)
      clear XV YV RV GV HV FV H19
      obtain ⟨zb2, zo2, he, -, hcA⟩ := F4.out _ _ RU.out.c
      cases he
      obtain ⟨vb2, vo2, he, -, hcB⟩ := F5.out _ _ GU.out.c
      cases he
      have y0 : v6.cell? ⟨w2.heap.size, 0, none⟩ = some (.bool B.leaf) := by rw [Go.Joins.cell_of_block XU.out]; rfl
      have y1 : v6.cell? ⟨w2.heap.size, 1, none⟩ = some (.slice (some ⟨xb, xo, none⟩) B.K.length dk) := by rw [Go.Joins.cell_of_block XU.out]; rfl
      have y2 : v6.cell? ⟨w2.heap.size, 2, none⟩ = some (.slice bv B.V.length dv) := by rw [Go.Joins.cell_of_block XU.out]; rfl
      have y3 : v6.cell? ⟨w2.heap.size, 3, none⟩ = some (.slice (some ⟨zb, zo, none⟩) B.C.length dc) := by rw [Go.Joins.cell_of_block XU.out]; rfl
      have z0 : v6.cell? ⟨w5.heap.size, 0, none⟩ = some (.bool H.leaf) := by rw [Go.Joins.cell_of_block YU.out]; rfl
      have z1 : v6.cell? ⟨w5.heap.size, 1, none⟩ = some (.slice hk' H.K.length ek) := by rw [Go.Joins.cell_of_block YU.out]; rfl
      have z2 : v6.cell? ⟨w5.heap.size, 2, none⟩ = some (.slice hv H.V.length ev) := by rw [Go.Joins.cell_of_block YU.out]; rfl
      have z3 : v6.cell? ⟨w5.heap.size, 3, none⟩ = some (.slice (some ⟨vb', vo', none⟩) H.C.length ec) := by rw [Go.Joins.cell_of_block YU.out]; rfl
      clear XU YU RU GU F1 F2 F3 F4 F5
      go_wp2_with fail
      go_quiet (fail)
      go_wp2_with fail
      go_roundw
      case rel => exact ⟨j + 1, by omega, by go_num, drewN_below HU.out _⟩
      case measure => simp [intOf]; omega
    · obtain rfl : j = B.K.length := by omega
      have hji : ¬ (B.K.length : Int) < (B.K.length : Int) := by omega
      obtain ⟨vb', vo', rfl, -, hcP⟩ := KP.out _ _ GW.out.c
      have z0 : wr.cell? ⟨w5.heap.size, 0, none⟩ = some (.bool H.leaf) := by rw [Go.Joins.cell_of_block YW.out]; rfl
      have z1 : wr.cell? ⟨w5.heap.size, 1, none⟩ = some (.slice hk' H.K.length ek) := by rw [Go.Joins.cell_of_block YW.out]; rfl
      have z2 : wr.cell? ⟨w5.heap.size, 2, none⟩ = some (.slice hv H.V.length ev) := by rw [Go.Joins.cell_of_block YW.out]; rfl
      have z3 : wr.cell? ⟨w5.heap.size, 3, none⟩ = some (.slice (some ⟨vb', vo', none⟩) H.C.length ec) := by rw [Go.Joins.cell_of_block YW.out]; rfl
      go_wp2_with fail
      go_ret
      exact ⟨rfl, chain B8.out HW.out⟩

set_option maxHeartbeats 6400000 in
set_option maxRecDepth 20000 in
theorem hangs_pos (a : Option Addr) (cap : Nat) (L : List (Int × ByteArray)) (key : Int) (w : World) (hL : Prs w a L) (hk : ∀ p ∈ L, 0 ≤ p.1 ∧ p.1 ≤ 18446744073709551615) (hkey : 0 ≤ key ∧ key ≤ 18446744073709551615) (B : Nod) (hB : branchN L (min L.length 20) = B) (p : Nat) (hp : findN B key = (p, true)) (h0 : 0 < p) (kv : Int) (hKp : B.K[p - 1]? = some kv) (hne : kv ≠ key) (hn : hasN B key = false) :
    Calls Try.prog 7 #[.slice a L.length cap, .int .u64 key] w fun e w' => e = .returned (.bool true) ∧ Below w.heap.size w w' := by
  have EX := Lib.hid (examples_yes w)
  have BR := Lib.hid (fun w' (hb : Below w.heap.size w w') => branch_any a cap L w' (hL.below hb) hk)
  have bl := branchN_ok L (min L.length 20)
  have br := branchN_rise L (min L.length 20)
  rw [hB] at BR bl br
  have hlen : B.K.length ≤ 20 := by have := bl.2.2; omega
  have hpl := findN_le B key
  rw [hp] at hpl
  have hpl' : p ≤ B.K.length := hpl
  clear hL hk hB hpl
  generalize L.length = ln at *
  have FB := Lib.hid (fun ak av ac ck cv cc w' (h : NodR w' B ak av ac ck cv cc) => find_is B ak av ac ck cv cc w' h key p true (Lib.hid hp))
  obtain ⟨H, hH⟩ : ∃ H, hangN B (p : Int) key 600 = H := ⟨_, rfl⟩
  obtain ⟨hHl, hHw, hHk, hHc, hBc, hHf, hHp, hHu, hall⟩ := hang_facts B key 600 p bl.1 bl.2.1 br hp hn H hH
  obtain ⟨pn, hpn⟩ : ∃ pn, p + 1 = pn := ⟨_, rfl⟩
  rw [hpn] at hHf hHp
  have hpnl : pn < H.C.length := by omega
  rw [List.getElem?_eq_getElem hpnl] at hHp
  have hHp' : H.C[pn] = 600 := Option.some.inj hHp
  have HN := Lib.hid (fun ak av ac ck cv cc w' (h : NodR w' B ak av ac ck cv cc) => hang_is B ak av ac ck cv cc w' h p key 600 bl.1 bl.2.1 hpl' (by omega) hkey (by decide))
  rw [hH] at HN
  have FH := Lib.hid (fun ak av ac ck cv cc w' (h : NodR w' H ak av ac ck cv cc) => find_is H ak av ac ck cv cc w' h key pn true (Lib.hid hHf))
  have UN := Lib.hid (fun ak av ac ck cv cc w' (h : NodR w' H ak av ac ck cv cc) => unhang_is H ak av ac ck cv cc w' h p hHl hHw (by omega))
  rw [hHu] at UN
  have RF := Lib.hid (fun ak av ac ck cv cc w' => ref_is B ak av ac ck cv cc w')
  have ND := Lib.hid (fun ak av ac bk bv bc ck cv cc dk dv dc w' (hA : NodR w' B ak av ac ck cv cc) (hB : NodR w' B bk bv bc dk dv dc) => nodes_yes B ak av ac bk bv bc ck cv cc dk dv dc w' hA hB)
  have LP : Hid (∀ k, k < B.K.length → ∃ (ka kb : Nat) (x kk : Int), ka < B.C.length ∧ kb < H.C.length ∧
      (∀ (w' : World) ak av ac ck cv cc, NodR w' B ak av ac ck cv cc → Calls Try.prog 12 #[nodV B ak av ac ck cv cc, .int .u64 kk] w' fun e w'' => e = .returned (.tuple #[.int .i64 (ka : Int), .bool true]) ∧ Below w'.heap.size w' w'') ∧
      (∀ (w' : World) ak av ac ck cv cc, NodR w' H ak av ac ck cv cc → Calls Try.prog 12 #[nodV H ak av ac ck cv cc, .int .u64 kk] w' fun e w'' => e = .returned (.tuple #[.int .i64 (kb : Int), .bool true]) ∧ Below w'.heap.size w' w'') ∧
      (∀ (w' : World) a', Rd w' a' (B.K.map ukey) → ∃ b off, a' = some ⟨b, off, none⟩ ∧ b < w'.heap.size ∧ w'.cell? ⟨b, off + k, none⟩ = some (.int .u64 kk)) ∧
      (∀ (w' : World) a', Rd w' a' (B.C.map ikid) → ∃ b off, a' = some ⟨b, off, none⟩ ∧ b < w'.heap.size ∧ w'.cell? ⟨b, off + ka, none⟩ = some (.int .i64 x)) ∧
      (∀ (w' : World) a', Rd w' a' (H.C.map ikid) → ∃ b off, a' = some ⟨b, off, none⟩ ∧ b < w'.heap.size ∧ w'.cell? ⟨b, off + kb, none⟩ = some (.int .i64 x))) := Lib.hid (by
    intro k hk
    obtain ⟨ka, kb, f1, f2, h1, h2, h3⟩ := hall k hk
    refine ⟨ka, kb, B.C[ka], B.K[k], h1, h2, fun w' ak av ac ck cv cc h => find_is B ak av ac ck cv cc w' h _ ka true (Lib.hid f1), fun w' ak av ac ck cv cc h => find_is H ak av ac ck cv cc w' h _ kb true (Lib.hid f2), fun w' a' h => ?_, fun w' a' h => ?_, fun w' a' h => ?_⟩
    · obtain ⟨b, off, q1, q2, q3⟩ := h.at k (by simpa using hk)
      exact ⟨b, off, q1, q2, by rw [q3]; simp [ukey]⟩
    · obtain ⟨b, off, q1, q2, q3⟩ := h.at ka (by simpa using h1)
      exact ⟨b, off, q1, q2, by rw [q3]; simp [ikid]⟩
    · obtain ⟨b, off, q1, q2, q3⟩ := h.at kb (by simpa using h2)
      exact ⟨b, off, q1, q2, by rw [q3, h3]; simp [ikid]⟩)
  have KP : Hid (∀ (w' : World) a', Rd w' a' (H.C.map ikid) → ∃ b off, a' = some ⟨b, off, none⟩ ∧ b < w'.heap.size ∧ w'.cell? ⟨b, off + pn, none⟩ = some (.int .i64 600)) := Lib.hid (by
    intro w' a' h
    obtain ⟨b, off, q1, q2, q3⟩ := h.at pn (by simpa using hpnl)
    exact ⟨b, off, q1, q2, by rw [q3]; simp [ikid, hHp']⟩)
  have KV : Hid (∀ (w' : World) a', Rd w' a' (B.K.map ukey) → ∃ b off, a' = some ⟨b, off, none⟩ ∧ b < w'.heap.size ∧ w'.cell? ⟨b, off + (p - 1), none⟩ = some (.int .u64 kv)) := Lib.hid (by
    intro w' a' h
    obtain ⟨hq, hq2⟩ := List.getElem?_eq_some_iff.1 hKp
    obtain ⟨b, off, q1, q2, q3⟩ := h.at (p - 1) (by simpa using hq)
    exact ⟨b, off, q1, q2, by rw [q3]; simp [ukey, hq2]⟩)
  have hpw : IntKind.i64.wrap ((p : Int) - 1) = ((p - 1 : Nat) : Int) := by rw [show (p : Int) - 1 = ((p - 1 : Nat) : Int) from by omega]; exact IntWalk.i64_in _ (by omega)
  have hpq : ((p - 1 : Nat) : Int) < (B.K.length : Int) := by omega
  have h0i : (0 : Int) < (p : Int) := by omega
  obtain ⟨pm, hpm⟩ : ∃ pm, p - 1 = pm := ⟨_, rfl⟩
  rw [hpm] at KV hpw hpq
  have hne' : (kv == key) = false := by simpa using hne
  have hp1 : ¬ (p : Int) < 0 := by omega
  have hp2 : ¬ (B.K.length : Int) < (p : Int) := by omega
  have hw1 : IntKind.i64.wrap ((B.K.length : Int) + 1) = (H.K.length : Int) := by rw [show (H.K.length : Int) = (B.K.length : Int) + 1 from by omega]; exact IntWalk.i64_in _ (by omega)
  have hw2 : IntKind.i64.wrap ((B.C.length : Int) + 1) = (H.C.length : Int) := by rw [show (H.C.length : Int) = (B.C.length : Int) + 1 from by omega]; exact IntWalk.i64_in _ (by omega)
  have hw3 : IntKind.i64.wrap ((p : Int) + 1) = (pn : Int) := by rw [← hpn]; exact IntWalk.i64_in _ (by omega)
  have hpni : (pn : Int) < (H.C.length : Int) := by omega
  clear hHl hHw hHk hHc hBc hHf hHp hHu hall hHp' hpnl hpn hn hH
  clear hkey bl br hpl' hp h0 hKp hpm hne
  go_enter Try.func7, Try.ntmps7
  go_wp2_with fail
  refine EX.out.mono ?_
  rintro e w1 ⟨rfl, b1⟩
  have B1 := Lib.hid b1
  clear b1 EX
  go_wp2_with fail
  refine (BR.out _ B1.out).mono ?_
  rintro e w2 ⟨⟨bk, bv, bc, dk, dv, dc, rfl, hR2, -, -, -⟩, b2⟩
  have B2 := Lib.hid (chain B1.out b2)
  have R2 := Lib.hid hR2
  clear b2 hR2 BR B1
  simp only [nodV]
  go_wp2_with fail
  obtain ⟨w3, hw3'⟩ : ∃ w3, w2.alloc (.cells #[.bool B.leaf, .slice bk B.K.length dk, .slice bv B.V.length dv, .slice bc B.C.length dc] 26) = w3 := ⟨_, rfl⟩
  rw [hw3']
  have b3 : Below w2.heap.size w2 w3 := by rw [← hw3']; exact below_made _ _
  have X3 : Hid (w3.heap[w2.heap.size]? = some (.cells #[.bool B.leaf, .slice bk B.K.length dk, .slice bv B.V.length dv, .slice bc B.C.length dc] 26)) := Lib.hid (by rw [← hw3']; exact heap_alloc_new _ _)
  have R3 := Lib.hid (R2.out.below b3)
  have B3 := Lib.hid (chain B2.out b3)
  clear hw3' b3 R2 B2
  have y0 : w3.cell? ⟨w2.heap.size, 0, none⟩ = some (.bool B.leaf) := by rw [Go.Joins.cell_of_block X3.out]; rfl
  have y1 : w3.cell? ⟨w2.heap.size, 1, none⟩ = some (.slice bk B.K.length dk) := by rw [Go.Joins.cell_of_block X3.out]; rfl
  have y2 : w3.cell? ⟨w2.heap.size, 2, none⟩ = some (.slice bv B.V.length dv) := by rw [Go.Joins.cell_of_block X3.out]; rfl
  have y3 : w3.cell? ⟨w2.heap.size, 3, none⟩ = some (.slice bc B.C.length dc) := by rw [Go.Joins.cell_of_block X3.out]; rfl
  go_wp2_with fail
  refine (FB.out _ _ _ _ _ _ _ R3.out).mono ?_
  rintro e w4 ⟨rfl, b4⟩
  have X4 := Lib.hid (kept X3.out b4)
  have R4 := Lib.hid (R3.out.below b4)
  have B4 := Lib.hid (chain B3.out b4)
  clear b4 X3 R3 B3 FB y0 y1 y2 y3
  have y0 : w4.cell? ⟨w2.heap.size, 0, none⟩ = some (.bool B.leaf) := by rw [Go.Joins.cell_of_block X4.out]; rfl
  have y1 : w4.cell? ⟨w2.heap.size, 1, none⟩ = some (.slice bk B.K.length dk) := by rw [Go.Joins.cell_of_block X4.out]; rfl
  have y2 : w4.cell? ⟨w2.heap.size, 2, none⟩ = some (.slice bv B.V.length dv) := by rw [Go.Joins.cell_of_block X4.out]; rfl
  have y3 : w4.cell? ⟨w2.heap.size, 3, none⟩ = some (.slice bc B.C.length dc) := by rw [Go.Joins.cell_of_block X4.out]; rfl
  obtain ⟨vb, vo, rfl, hvb, hvc⟩ := KV.out _ _ R4.out.k
  clear KV
  go_wp2_with fail
  refine (HN.out _ _ _ _ _ _ _ R4.out).mono ?_
  rintro e w5 ⟨⟨hk', hv, hc, ek, ev, ec, rfl, hR5, -, -, -⟩, b5⟩
  have X5 := Lib.hid (kept X4.out b5)
  have R5 := Lib.hid (R4.out.below b5)
  have B5 := Lib.hid (chain B4.out b5)
  have G5 := Lib.hid hR5
  clear b5 hR5 X4 R4 B4 HN y0 y1 y2 y3
  simp only [nodV]
  go_upto_region 11 with fail
  obtain ⟨w6, hw6'⟩ : ∃ w6, w5.alloc (.cells #[.bool H.leaf, .slice hk' H.K.length ek, .slice hv H.V.length ev, .slice hc H.C.length ec] 26) = w6 := ⟨_, rfl⟩
  rw [hw6']
  have b6 : Below w5.heap.size w5 w6 := by rw [← hw6']; exact below_made _ _
  have Y6 : Hid (w6.heap[w5.heap.size]? = some (.cells #[.bool H.leaf, .slice hk' H.K.length ek, .slice hv H.V.length ev, .slice hc H.C.length ec] 26)) := Lib.hid (by rw [← hw6']; exact heap_alloc_new _ _)
  have X6 := Lib.hid (kept X5.out b6)
  have R6 := Lib.hid (R5.out.below b6)
  have G6 := Lib.hid (G5.out.below b6)
  have B6 := Lib.hid (chain B5.out b6)
  clear hw6' b6 X5 R5 G5 B5
  have y0 : w6.cell? ⟨w2.heap.size, 0, none⟩ = some (.bool B.leaf) := by rw [Go.Joins.cell_of_block X6.out]; rfl
  have y1 : w6.cell? ⟨w2.heap.size, 1, none⟩ = some (.slice (some ⟨vb, vo, none⟩) B.K.length dk) := by rw [Go.Joins.cell_of_block X6.out]; rfl
  have y2 : w6.cell? ⟨w2.heap.size, 2, none⟩ = some (.slice bv B.V.length dv) := by rw [Go.Joins.cell_of_block X6.out]; rfl
  have y3 : w6.cell? ⟨w2.heap.size, 3, none⟩ = some (.slice bc B.C.length dc) := by rw [Go.Joins.cell_of_block X6.out]; rfl
  have z0 : w6.cell? ⟨w5.heap.size, 0, none⟩ = some (.bool H.leaf) := by rw [Go.Joins.cell_of_block Y6.out]; rfl
  have z1 : w6.cell? ⟨w5.heap.size, 1, none⟩ = some (.slice hk' H.K.length ek) := by rw [Go.Joins.cell_of_block Y6.out]; rfl
  have z2 : w6.cell? ⟨w5.heap.size, 2, none⟩ = some (.slice hv H.V.length ev) := by rw [Go.Joins.cell_of_block Y6.out]; rfl
  have z3 : w6.cell? ⟨w5.heap.size, 3, none⟩ = some (.slice hc H.C.length ec) := by rw [Go.Joins.cell_of_block Y6.out]; rfl
  go_wp2_with fail
  refine (FH.out _ _ _ _ _ _ _ G6.out).mono ?_
  rintro e w7 ⟨rfl, b7⟩
  have Y7 := Lib.hid (kept Y6.out b7)
  have X7 := Lib.hid (kept X6.out b7)
  have R7 := Lib.hid (R6.out.below b7)
  have G7 := Lib.hid (G6.out.below b7)
  have B7 := Lib.hid (chain B6.out b7)
  clear b7 X6 Y6 R6 G6 B6 FH y0 y1 y2 y3 z0 z1 z2 z3 hw1 hw2
  go_wp2_with fail
  refine wp_region_held_drew (S := fun w' => Below w7.heap.size w7 w') (by kernel_rfl) (Below.refl w7.heap.size w7).drew (fun hS => ?_)
  refine held_take (i := 0) 83 (v := ?vq0x1) rfl rfl (by kernel_rfl) (by kernel_rfl) (by kernel_rfl) (fun _ _ _ h => h) hS (by rfl) ?hq0x1 ?rq0x1
  case hq0x1 =>
    intro w9 s9
    have X9 := kept Y7.out s9
    have c0 : w9.cell? ⟨w5.heap.size, 0, none⟩ = some (.bool H.leaf) := by rw [Go.Joins.cell_of_block X9]; rfl
    have c1 : w9.cell? ⟨w5.heap.size, 1, none⟩ = some (.slice hk' H.K.length ek) := by rw [Go.Joins.cell_of_block X9]; rfl
    have c2 : w9.cell? ⟨w5.heap.size, 2, none⟩ = some (.slice hv H.V.length ev) := by rw [Go.Joins.cell_of_block X9]; rfl
    have c3 : w9.cell? ⟨w5.heap.size, 3, none⟩ = some (.slice hc H.C.length ec) := by rw [Go.Joins.cell_of_block X9]; rfl
    clear s9
    go_simp
    try (with_reducible rfl)
  simp only [List.setIfInBounds_toArray, List.set_cons_zero, List.set_cons_succ]
  refine held_take (i := 1) 84 (v := ?vq1x2) rfl rfl (by kernel_rfl) (by kernel_rfl) (by kernel_rfl) (fun _ _ _ h => h) hS (by rfl) ?hq1x2 ?rq1x2
  case hq1x2 =>
    intro w9 s9
    clear s9
    go_simp
    try (with_reducible rfl)
  simp only [List.setIfInBounds_toArray, List.set_cons_zero, List.set_cons_succ]
  refine held_take (i := 3) 86 (v := ?vq3x3) rfl rfl (by kernel_rfl) (by kernel_rfl) (by kernel_rfl) (fun _ _ _ h => h) hS (by rfl) ?hq3x3 ?rq3x3
  case hq3x3 =>
    intro w9 s9
    have X9 := kept X7.out s9
    have c0 : w9.cell? ⟨w2.heap.size, 0, none⟩ = some (.bool B.leaf) := by rw [Go.Joins.cell_of_block X9]; rfl
    have c1 : w9.cell? ⟨w2.heap.size, 1, none⟩ = some (.slice (some ⟨vb, vo, none⟩) B.K.length dk) := by rw [Go.Joins.cell_of_block X9]; rfl
    have c2 : w9.cell? ⟨w2.heap.size, 2, none⟩ = some (.slice bv B.V.length dv) := by rw [Go.Joins.cell_of_block X9]; rfl
    have c3 : w9.cell? ⟨w2.heap.size, 3, none⟩ = some (.slice bc B.C.length dc) := by rw [Go.Joins.cell_of_block X9]; rfl
    clear s9
    go_simp
    try (with_reducible rfl)
  simp only [List.setIfInBounds_toArray, List.set_cons_zero, List.set_cons_succ]
  refine held_step (i := 2) rfl (by kernel_rfl) (fun K hK => ?_)
  have HK := Lib.hid hK
  clear hK
  go_simp
  go_wp2_with fail
  refine (UN.out _ _ _ _ _ _ _ (G7.out.below hS)).mono ?_
  rintro e u5 ⟨⟨uk, uv, uc, ua, ub, ud, rfl, hU, -, -, -⟩, b5⟩
  have hUH := Lib.hid hU
  clear hU
  simp only [nodV]
  refine HK.out _ _ ?_ ?_
  · exact chain hS b5
  clear HK K
  try simp only [Act.put, List.setIfInBounds_toArray, List.set_cons_zero, List.set_cons_succ]
  have hS9 := chain hS b5
  clear hS
  have hS := hS9
  clear hS9
  clear b5
  refine held_step (i := 4) rfl (by kernel_rfl) (fun K hK => ?_)
  have HK := Lib.hid hK
  clear hK
  go_simp
  go_wp2_with fail
  refine (RF.out _ _ _ _ _ _ _).mono ?_
  rintro e u6 ⟨rfl, b6⟩
  have hUG := Lib.hid (hUH.out.below b6)
  clear hUH
  have hUH := hUG
  clear hUG
  simp only [nodV]
  refine HK.out _ _ ?_ ?_
  · exact chain hS b6
  clear HK K
  try simp only [Act.put, List.setIfInBounds_toArray, List.set_cons_zero, List.set_cons_succ]
  have hS9 := chain hS b6
  clear hS
  have hS := hS9
  clear hS9
  clear b6
  refine held_step (i := 5) rfl (by kernel_rfl) (fun K hK => ?_)
  have HK := Lib.hid hK
  clear hK
  go_simp
  go_wp2_with fail
  refine (ND.out _ _ _ _ _ _ _ _ _ _ _ _ _ hUH.out (R7.out.below hS)).mono ?_
  rintro e u7 ⟨rfl, b7⟩
  refine HK.out _ _ ?_ ?_
  · exact chain hS b7
  clear HK K
  try simp only [Act.put, List.setIfInBounds_toArray, List.set_cons_zero, List.set_cons_succ]
  have hS9 := chain hS b7
  clear hS
  have hS := hS9
  clear hS9
  clear b7
  refine held_take (i := 6) 12 (v := ?vq6x4) rfl rfl (by kernel_rfl) (by kernel_rfl) (by kernel_rfl) (fun _ _ _ h => h) hS (by rfl) ?hq6x4 ?rq6x4
  case hq6x4 =>
    intro w9 s9
    clear s9
    go_simp
    try (with_reducible rfl)
  simp only [List.setIfInBounds_toArray, List.set_cons_zero, List.set_cons_succ]
  refine wpAnyH_done (by kernel_rfl) ?_ _
  have H14 := Lib.hid hS
  clear hS hUH
  have X8 := Lib.hid (kept X7.out H14.out)
  have Y8 := Lib.hid (kept Y7.out H14.out)
  have R8 := Lib.hid (R7.out.below H14.out)
  have G8 := Lib.hid (G7.out.below H14.out)
  have B8 := Lib.hid (chain B7.out H14.out)
  clear X7 Y7 R7 G7 B7 H14
  go_wp2_with fail
  go_loopw [13] (fun k wr => ∃ j : Nat, j ≤ B.K.length ∧ k = .int .i64 (j : Int) ∧ Below u7.heap.size u7 wr) (fun k _ => B.K.length + 1 - (intOf k).toNat)
  case atStart => exact ⟨0, Nat.zero_le _, rfl, Below.refl _ _⟩
  case round =>
    obtain ⟨j, hj, rfl, hBw⟩ := hrel
    have HW := Lib.hid hBw
    clear hBw
    have XW := Lib.hid (kept X8.out HW.out)
    have YW := Lib.hid (kept Y8.out HW.out)
    have RW := Lib.hid (R8.out.below HW.out)
    have GW := Lib.hid (G8.out.below HW.out)
    have y0 : wr.cell? ⟨w2.heap.size, 0, none⟩ = some (.bool B.leaf) := by rw [Go.Joins.cell_of_block XW.out]; rfl
    have y1 : wr.cell? ⟨w2.heap.size, 1, none⟩ = some (.slice (some ⟨vb, vo, none⟩) B.K.length dk) := by rw [Go.Joins.cell_of_block XW.out]; rfl
    have y2 : wr.cell? ⟨w2.heap.size, 2, none⟩ = some (.slice bv B.V.length dv) := by rw [Go.Joins.cell_of_block XW.out]; rfl
    have y3 : wr.cell? ⟨w2.heap.size, 3, none⟩ = some (.slice bc B.C.length dc) := by rw [Go.Joins.cell_of_block XW.out]; rfl
    by_cases hlt : j < B.K.length
    · have hji : (j : Int) < (B.K.length : Int) := by omega
      obtain ⟨ka, kb, x, kk, hka, hkb, f1, f2, f3, f4, f5⟩ := LP.out j hlt
      have hka1 : decide ((B.C.length : Int) ≤ (ka : Int)) = false := by simp; omega
      have hkb1 : decide ((H.C.length : Int) ≤ (kb : Int)) = false := by simp; omega
      have hka3 : decide (B.C.length ≤ ka) = false := by simp; omega
      have hkb3 : decide (H.C.length ≤ kb) = false := by simp; omega
      have hka2 : (ka : Int) < (B.C.length : Int) := by omega
      have hkb2 : (kb : Int) < (H.C.length : Int) := by omega
      have F1 := Lib.hid f1
      have F2 := Lib.hid f2
      have F3 := Lib.hid f3
      have F4 := Lib.hid f4
      have F5 := Lib.hid f5
      clear f1 f2 f3 f4 f5 hka hkb
      obtain ⟨xb, xo, hxe, -, -⟩ := F3.out _ _ RW.out.k
      cases hxe
      obtain ⟨zb, zo, rfl, -, -⟩ := F4.out _ _ RW.out.c
      obtain ⟨vb', vo', rfl, -, -⟩ := F5.out _ _ GW.out.c
      have FK : Hid (∀ w', Below wr.heap.size wr w' → w'.cell? ⟨vb, vo + j, none⟩ = some (.int .u64 kk)) := Lib.hid (fun w' hb => by
        obtain ⟨b, off, he, -, hc⟩ := F3.out _ _ (RW.out.below hb).k
        cases he
        exact hc)
      go_wp2_with fail
      refine wp_region_held_drew (S := fun w' => Below wr.heap.size wr w') (by kernel_rfl) (Below.refl wr.heap.size wr).drew (fun hS => ?_)
      refine held_take (i := 0) 97 (v := ?vl0x1) rfl rfl (by kernel_rfl) (by kernel_rfl) (by kernel_rfl) (fun _ _ _ h => h) hS (by rfl) ?hl0x1 ?rl0x1
      case hl0x1 =>
        intro w9 s9
        have X9 := kept XW.out s9
        have c0 : w9.cell? ⟨w2.heap.size, 0, none⟩ = some (.bool B.leaf) := by rw [Go.Joins.cell_of_block X9]; rfl
        have c1 : w9.cell? ⟨w2.heap.size, 1, none⟩ = some (.slice (some ⟨vb, vo, none⟩) B.K.length dk) := by rw [Go.Joins.cell_of_block X9]; rfl
        have c2 : w9.cell? ⟨w2.heap.size, 2, none⟩ = some (.slice bv B.V.length dv) := by rw [Go.Joins.cell_of_block X9]; rfl
        have c3 : w9.cell? ⟨w2.heap.size, 3, none⟩ = some (.slice (some ⟨zb, zo, none⟩) B.C.length dc) := by rw [Go.Joins.cell_of_block X9]; rfl
        clear s9
        go_simp
        try (with_reducible rfl)
      simp only [List.setIfInBounds_toArray, List.set_cons_zero, List.set_cons_succ]
      refine held_take (i := 1) 98 (v := ?vl1x2) rfl rfl (by kernel_rfl) (by kernel_rfl) (by kernel_rfl) (fun _ _ _ h => h) hS (by rfl) ?hl1x2 ?rl1x2
      case hl1x2 =>
        intro w9 s9
        clear s9
        go_simp
        try (with_reducible rfl)
      simp only [List.setIfInBounds_toArray, List.set_cons_zero, List.set_cons_succ]
      refine held_take (i := 2) 99 (v := ?vl2x3) rfl rfl (by kernel_rfl) (by kernel_rfl) (by kernel_rfl) (fun _ _ _ h => h) hS (by rfl) ?hl2x3 ?rl2x3
      case hl2x3 =>
        intro w9 s9
        have X9 := kept XW.out s9
        have c0 : w9.cell? ⟨w2.heap.size, 0, none⟩ = some (.bool B.leaf) := by rw [Go.Joins.cell_of_block X9]; rfl
        have c1 : w9.cell? ⟨w2.heap.size, 1, none⟩ = some (.slice (some ⟨vb, vo, none⟩) B.K.length dk) := by rw [Go.Joins.cell_of_block X9]; rfl
        have c2 : w9.cell? ⟨w2.heap.size, 2, none⟩ = some (.slice bv B.V.length dv) := by rw [Go.Joins.cell_of_block X9]; rfl
        have c3 : w9.cell? ⟨w2.heap.size, 3, none⟩ = some (.slice (some ⟨zb, zo, none⟩) B.C.length dc) := by rw [Go.Joins.cell_of_block X9]; rfl
        clear s9
        go_simp
        try (with_reducible rfl)
      simp only [List.setIfInBounds_toArray, List.set_cons_zero, List.set_cons_succ]
      refine held_take (i := 3) 100 (v := ?vl3x4) rfl rfl (by kernel_rfl) (by kernel_rfl) (by kernel_rfl) (fun _ _ _ h => h) hS (by rfl) ?hl3x4 ?rl3x4
      case hl3x4 =>
        intro w9 s9
        clear s9
        go_simp
        try (with_reducible rfl)
      simp only [List.setIfInBounds_toArray, List.set_cons_zero, List.set_cons_succ]
      refine held_take (i := 4) 101 (v := ?vl4x5) rfl rfl (by kernel_rfl) (by kernel_rfl) (by kernel_rfl) (fun _ _ _ h => h) hS (by rfl) ?hl4x5 ?rl4x5
      case hl4x5 =>
        intro w9 s9
        clear s9
        go_simp
        try (with_reducible rfl)
      simp only [List.setIfInBounds_toArray, List.set_cons_zero, List.set_cons_succ]
      refine held_take (i := 5) 102 (v := ?vl5x6) rfl rfl (by kernel_rfl) (by kernel_rfl) (by kernel_rfl) (fun _ _ _ h => h) hS (by rfl) ?hl5x6 ?rl5x6
      case hl5x6 =>
        intro w9 s9
        have c := FK.out _ s9
        clear s9
        go_simp
        try (with_reducible rfl)
      simp only [List.setIfInBounds_toArray, List.set_cons_zero, List.set_cons_succ]
      refine held_step (i := 6) rfl (by kernel_rfl) (fun K hK => ?_)
      have HK := Lib.hid hK
      clear hK
      go_simp
      go_wp2_with fail
      refine (F1.out _ _ _ _ _ _ _ (RW.out.below hS)).mono ?_
      rintro e v5 ⟨rfl, b5⟩
      refine HK.out _ _ ?_ ?_
      · exact chain hS b5
      clear HK K
      try simp only [Act.put, List.setIfInBounds_toArray, List.set_cons_zero, List.set_cons_succ]
      have hS9 := chain hS b5
      clear hS
      have hS := hS9
      clear hS9
      clear b5
      refine held_take (i := 7) 96 (v := ?vl7x7) rfl rfl (by kernel_rfl) (by kernel_rfl) (by kernel_rfl) (fun _ _ _ h => h) hS (by rfl) ?hl7x7 ?rl7x7
      case hl7x7 =>
        intro w9 s9
        clear s9
        go_simp
        try (with_reducible rfl)
      simp only [List.setIfInBounds_toArray, List.set_cons_zero, List.set_cons_succ]
      refine held_take (i := 8) 104 (v := ?vl8x8) rfl rfl (by kernel_rfl) (by kernel_rfl) (by kernel_rfl) (fun _ _ _ h => h) hS (by rfl) ?hl8x8 ?rl8x8
      case hl8x8 =>
        intro w9 s9
        clear s9
        go_simp
        try (with_reducible rfl)
      simp only [List.setIfInBounds_toArray, List.set_cons_zero, List.set_cons_succ]
      refine held_take (i := 9) 105 (v := ?vl9x9) rfl rfl (by kernel_rfl) (by kernel_rfl) (by kernel_rfl) (fun _ _ _ h => h) hS (by rfl) ?hl9x9 ?rl9x9
      case hl9x9 =>
        intro w9 s9
        clear s9
        go_simp
        try (with_reducible rfl)
      simp only [List.setIfInBounds_toArray, List.set_cons_zero, List.set_cons_succ]
      refine held_take (i := 10) 14 (v := ?vl10x10) rfl rfl (by kernel_rfl) (by kernel_rfl) (by kernel_rfl) (fun _ _ _ h => h) hS (by rfl) ?hl10x10 ?rl10x10
      case hl10x10 =>
        intro w9 s9
        clear s9
        go_simp
        try (with_reducible rfl)
      simp only [List.setIfInBounds_toArray, List.set_cons_zero, List.set_cons_succ]
      refine held_take (i := 11) 15 (v := ?vl11x11) rfl rfl (by kernel_rfl) (by kernel_rfl) (by kernel_rfl) (fun _ _ _ h => h) hS (by rfl) ?hl11x11 ?rl11x11
      case hl11x11 =>
        intro w9 s9
        clear s9
        go_simp
        try (with_reducible rfl)
      simp only [List.setIfInBounds_toArray, List.set_cons_zero, List.set_cons_succ]
      refine wpAnyH_done (by kernel_rfl) ?_ _
      have H18 := Lib.hid hS
      clear hS
      have XV := Lib.hid (kept XW.out H18.out)
      have YV := Lib.hid (kept YW.out H18.out)
      have RV := Lib.hid (RW.out.below H18.out)
      have GV := Lib.hid (GW.out.below H18.out)
      have HV := Lib.hid (chain HW.out H18.out)
      have FV : Hid (∀ w', Below v5.heap.size v5 w' → w'.cell? ⟨vb, vo + j, none⟩ = some (.int .u64 kk)) := Lib.hid (fun w' hb => FK.out w' (chain H18.out hb))
      clear XW YW RW GW HW FK H18 y0 y1 y2 y3
      go_wp2_with fail
      refine wp_region_held_drew (S := fun w' => Below v5.heap.size v5 w') (by kernel_rfl) (Below.refl v5.heap.size v5).drew (fun hS => ?_)
      refine held_take (i := 0) 107 (v := ?vm0x1) rfl rfl (by kernel_rfl) (by kernel_rfl) (by kernel_rfl) (fun _ _ _ h => h) hS (by rfl) ?hm0x1 ?rm0x1
      case hm0x1 =>
        intro w9 s9
        have X9 := kept YV.out s9
        have c0 : w9.cell? ⟨w5.heap.size, 0, none⟩ = some (.bool H.leaf) := by rw [Go.Joins.cell_of_block X9]; rfl
        have c1 : w9.cell? ⟨w5.heap.size, 1, none⟩ = some (.slice hk' H.K.length ek) := by rw [Go.Joins.cell_of_block X9]; rfl
        have c2 : w9.cell? ⟨w5.heap.size, 2, none⟩ = some (.slice hv H.V.length ev) := by rw [Go.Joins.cell_of_block X9]; rfl
        have c3 : w9.cell? ⟨w5.heap.size, 3, none⟩ = some (.slice (some ⟨vb', vo', none⟩) H.C.length ec) := by rw [Go.Joins.cell_of_block X9]; rfl
        clear s9
        go_simp
        try (with_reducible rfl)
      simp only [List.setIfInBounds_toArray, List.set_cons_zero, List.set_cons_succ]
      refine held_take (i := 1) 108 (v := ?vm1x2) rfl rfl (by kernel_rfl) (by kernel_rfl) (by kernel_rfl) (fun _ _ _ h => h) hS (by rfl) ?hm1x2 ?rm1x2
      case hm1x2 =>
        intro w9 s9
        clear s9
        go_simp
        try (with_reducible rfl)
      simp only [List.setIfInBounds_toArray, List.set_cons_zero, List.set_cons_succ]
      refine held_take (i := 2) 109 (v := ?vm2x3) rfl rfl (by kernel_rfl) (by kernel_rfl) (by kernel_rfl) (fun _ _ _ h => h) hS (by rfl) ?hm2x3 ?rm2x3
      case hm2x3 =>
        intro w9 s9
        have X9 := kept XV.out s9
        have c0 : w9.cell? ⟨w2.heap.size, 0, none⟩ = some (.bool B.leaf) := by rw [Go.Joins.cell_of_block X9]; rfl
        have c1 : w9.cell? ⟨w2.heap.size, 1, none⟩ = some (.slice (some ⟨vb, vo, none⟩) B.K.length dk) := by rw [Go.Joins.cell_of_block X9]; rfl
        have c2 : w9.cell? ⟨w2.heap.size, 2, none⟩ = some (.slice bv B.V.length dv) := by rw [Go.Joins.cell_of_block X9]; rfl
        have c3 : w9.cell? ⟨w2.heap.size, 3, none⟩ = some (.slice (some ⟨zb, zo, none⟩) B.C.length dc) := by rw [Go.Joins.cell_of_block X9]; rfl
        clear s9
        go_simp
        try (with_reducible rfl)
      simp only [List.setIfInBounds_toArray, List.set_cons_zero, List.set_cons_succ]
      refine held_take (i := 3) 110 (v := ?vm3x4) rfl rfl (by kernel_rfl) (by kernel_rfl) (by kernel_rfl) (fun _ _ _ h => h) hS (by rfl) ?hm3x4 ?rm3x4
      case hm3x4 =>
        intro w9 s9
        clear s9
        go_simp
        try (with_reducible rfl)
      simp only [List.setIfInBounds_toArray, List.set_cons_zero, List.set_cons_succ]
      refine held_take (i := 4) 111 (v := ?vm4x5) rfl rfl (by kernel_rfl) (by kernel_rfl) (by kernel_rfl) (fun _ _ _ h => h) hS (by rfl) ?hm4x5 ?rm4x5
      case hm4x5 =>
        intro w9 s9
        clear s9
        go_simp
        try (with_reducible rfl)
      simp only [List.setIfInBounds_toArray, List.set_cons_zero, List.set_cons_succ]
      refine held_take (i := 5) 112 (v := ?vm5x6) rfl rfl (by kernel_rfl) (by kernel_rfl) (by kernel_rfl) (fun _ _ _ h => h) hS (by rfl) ?hm5x6 ?rm5x6
      case hm5x6 =>
        intro w9 s9
        have c := FV.out _ s9
        clear s9
        go_simp
        try (with_reducible rfl)
      simp only [List.setIfInBounds_toArray, List.set_cons_zero, List.set_cons_succ]
      refine held_step (i := 6) rfl (by kernel_rfl) (fun K hK => ?_)
      have HK := Lib.hid hK
      clear hK
      go_simp
      go_wp2_with fail
      refine (F2.out _ _ _ _ _ _ _ (GV.out.below hS)).mono ?_
      rintro e v6 ⟨rfl, b6⟩
      refine HK.out _ _ ?_ ?_
      · exact chain hS b6
      clear HK K
      try simp only [Act.put, List.setIfInBounds_toArray, List.set_cons_zero, List.set_cons_succ]
      have hS9 := chain hS b6
      clear hS
      have hS := hS9
      clear hS9
      clear b6
      refine held_take (i := 7) 106 (v := ?vm7x7) rfl rfl (by kernel_rfl) (by kernel_rfl) (by kernel_rfl) (fun _ _ _ h => h) hS (by rfl) ?hm7x7 ?rm7x7
      case hm7x7 =>
        intro w9 s9
        clear s9
        go_simp
        try (with_reducible rfl)
      simp only [List.setIfInBounds_toArray, List.set_cons_zero, List.set_cons_succ]
      refine held_take (i := 8) 114 (v := ?vm8x8) rfl rfl (by kernel_rfl) (by kernel_rfl) (by kernel_rfl) (fun _ _ _ h => h) hS (by rfl) ?hm8x8 ?rm8x8
      case hm8x8 =>
        intro w9 s9
        clear s9
        go_simp
        try (with_reducible rfl)
      simp only [List.setIfInBounds_toArray, List.set_cons_zero, List.set_cons_succ]
      refine held_take (i := 9) 115 (v := ?vm9x9) rfl rfl (by kernel_rfl) (by kernel_rfl) (by kernel_rfl) (fun _ _ _ h => h) hS (by rfl) ?hm9x9 ?rm9x9
      case hm9x9 =>
        intro w9 s9
        clear s9
        go_simp
        try (with_reducible rfl)
      simp only [List.setIfInBounds_toArray, List.set_cons_zero, List.set_cons_succ]
      refine held_take (i := 10) 16 (v := ?vm10x10) rfl rfl (by kernel_rfl) (by kernel_rfl) (by kernel_rfl) (fun _ _ _ h => h) hS (by rfl) ?hm10x10 ?rm10x10
      case hm10x10 =>
        intro w9 s9
        clear s9
        go_simp
        try (with_reducible rfl)
      simp only [List.setIfInBounds_toArray, List.set_cons_zero, List.set_cons_succ]
      refine held_take (i := 11) 17 (v := ?vm11x11) rfl rfl (by kernel_rfl) (by kernel_rfl) (by kernel_rfl) (fun _ _ _ h => h) hS (by rfl) ?hm11x11 ?rm11x11
      case hm11x11 =>
        intro w9 s9
        clear s9
        go_simp
        try (with_reducible rfl)
      simp only [List.setIfInBounds_toArray, List.set_cons_zero, List.set_cons_succ]
      refine wpAnyH_done (by kernel_rfl) ?_ _
      have H19 := Lib.hid hS
      clear hS
      have XU := Lib.hid (kept XV.out H19.out)
      have YU := Lib.hid (kept YV.out H19.out)
      have RU := Lib.hid (RV.out.below H19.out)
      have GU := Lib.hid (GV.out.below H19.out)
      have HU := Lib.hid (chain HV.out H19.out)
      clear XV YV RV GV HV FV H19
      obtain ⟨zb2, zo2, he, -, hcA⟩ := F4.out _ _ RU.out.c
      cases he
      obtain ⟨vb2, vo2, he, -, hcB⟩ := F5.out _ _ GU.out.c
      cases he
      have y0 : v6.cell? ⟨w2.heap.size, 0, none⟩ = some (.bool B.leaf) := by rw [Go.Joins.cell_of_block XU.out]; rfl
      have y1 : v6.cell? ⟨w2.heap.size, 1, none⟩ = some (.slice (some ⟨vb, vo, none⟩) B.K.length dk) := by rw [Go.Joins.cell_of_block XU.out]; rfl
      have y2 : v6.cell? ⟨w2.heap.size, 2, none⟩ = some (.slice bv B.V.length dv) := by rw [Go.Joins.cell_of_block XU.out]; rfl
      have y3 : v6.cell? ⟨w2.heap.size, 3, none⟩ = some (.slice (some ⟨zb, zo, none⟩) B.C.length dc) := by rw [Go.Joins.cell_of_block XU.out]; rfl
      have z0 : v6.cell? ⟨w5.heap.size, 0, none⟩ = some (.bool H.leaf) := by rw [Go.Joins.cell_of_block YU.out]; rfl
      have z1 : v6.cell? ⟨w5.heap.size, 1, none⟩ = some (.slice hk' H.K.length ek) := by rw [Go.Joins.cell_of_block YU.out]; rfl
      have z2 : v6.cell? ⟨w5.heap.size, 2, none⟩ = some (.slice hv H.V.length ev) := by rw [Go.Joins.cell_of_block YU.out]; rfl
      have z3 : v6.cell? ⟨w5.heap.size, 3, none⟩ = some (.slice (some ⟨vb', vo', none⟩) H.C.length ec) := by rw [Go.Joins.cell_of_block YU.out]; rfl
      clear XU YU RU GU F1 F2 F3 F4 F5
      go_wp2_with fail
      go_quiet (fail)
      go_wp2_with fail
      go_roundw
      case rel => exact ⟨j + 1, by omega, by go_num, drewN_below HU.out _⟩
      case measure => simp [intOf]; omega
    · obtain rfl : j = B.K.length := by omega
      have hji : ¬ (B.K.length : Int) < (B.K.length : Int) := by omega
      obtain ⟨vb', vo', rfl, -, hcP⟩ := KP.out _ _ GW.out.c
      have z0 : wr.cell? ⟨w5.heap.size, 0, none⟩ = some (.bool H.leaf) := by rw [Go.Joins.cell_of_block YW.out]; rfl
      have z1 : wr.cell? ⟨w5.heap.size, 1, none⟩ = some (.slice hk' H.K.length ek) := by rw [Go.Joins.cell_of_block YW.out]; rfl
      have z2 : wr.cell? ⟨w5.heap.size, 2, none⟩ = some (.slice hv H.V.length ev) := by rw [Go.Joins.cell_of_block YW.out]; rfl
      have z3 : wr.cell? ⟨w5.heap.size, 3, none⟩ = some (.slice (some ⟨vb', vo', none⟩) H.C.length ec) := by rw [Go.Joins.cell_of_block YW.out]; rfl
      go_wp2_with fail
      go_ret
      exact ⟨rfl, chain B8.out HW.out⟩
theorem nodeHangs_law (a : Option Addr) (len cap : Nat) (key : Int) (w : World) (hp : IsPairs w a len) (hkey : (Lit.int .u64 key).wf = true) :
    Calls Try.prog 7 #[.slice a len cap, .int .u64 key] w fun e w' => e = .returned (.bool true) ∧ Below w.heap.size w w' := by
  obtain ⟨L, rfl, hL, hk, hs⟩ := hp
  have hkey' := u64_rng key hkey
  have bl := branchN_ok L (min L.length 20)
  have hpt := findN_parts (branchN L (min L.length 20)) key bl.1 bl.2.1
  have hle := findN_le (branchN L (min L.length 20)) key
  obtain ⟨B, hB⟩ : ∃ B, branchN L (min L.length 20) = B := ⟨_, rfl⟩
  rw [hB] at hpt hle
  obtain ⟨p, hpe⟩ : ∃ p, (findN B key).1 = p := ⟨_, rfl⟩
  rw [hpe] at hle
  have hp : findN B key = (p, true) := by rw [← hpe, ← hpt.1]
  by_cases h0 : p = 0
  · exact hangs_zero a cap L key w hL hk hkey' B hB p hp h0 (by unfold hasN; rw [hp, h0]; rfl)
  · have hq : p - 1 < B.K.length := by omega
    by_cases hc : B.K[p - 1] = key
    · exact hangs_there a cap L key w hL hk hkey' B hB p hp (by omega) (by rw [List.getElem?_eq_getElem hq, hc])
    · exact hangs_pos a cap L key w hL hk hkey' B hB p hp (by omega) B.K[p - 1] (List.getElem?_eq_getElem hq) hc (by unfold hasN; rw [hp, List.getD_eq_getElem?_getD, List.getElem?_eq_getElem hq]; simp [hc])
end Go.Proofs.Ytkdcoipbdkmieaa
