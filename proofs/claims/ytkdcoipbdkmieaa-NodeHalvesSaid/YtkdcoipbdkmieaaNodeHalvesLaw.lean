/-
  The law NodeHalves of package bailiwicklaw10.
-/
import Derived.Test.YtkdcoipbdkmieaaNodeX
import Derived.Test.YtkdcoipbdkmieaaNodeNb
import Derived.Test.YtkdcoipbdkmieaaPairs
import Derived.Deep.DeepCutAuto
namespace Go.Proofs.Ytkdcoipbdkmieaa
open Go.RowKit
set_option linter.unusedVariables false
set_option linter.unusedSimpArgs false
set_option maxHeartbeats 12800000 in
set_option maxRecDepth 20000 in
theorem nodeHalves_law (a : Option Addr) (len cap : Nat) (leaf : Bool) (w : World) (hpr : IsPairs w a len) :
    Calls Try.prog 8 #[.slice a len cap, .bool leaf] w fun e w' => e = .returned (.bool true) ∧ Below w.heap.size w w' := by
  obtain ⟨L, rfl, hL, hk, hs⟩ := hpr
  have EX := Lib.hid (examples_yes w)
  have GR := Lib.hid (fun w' (hb : Below w.heap.size w w') => grow_any a cap L w' (hL.below hb) hk hs)
  have BR := Lib.hid (fun w' (hb : Below w.heap.size w w') => branch_any a cap L w' (hL.below hb) hk)
  have gl := growN_leaf L 20
  have gr := growN_rise L 20
  have bl := branchN_ok L (min L.length 20)
  have br := branchN_rise L (min L.length 20)
  obtain ⟨G, hG⟩ : ∃ G, growN L 20 = G := ⟨_, rfl⟩
  obtain ⟨M, hM⟩ : ∃ M, branchN L (min L.length 20) = M := ⟨_, rfl⟩
  rw [hG] at GR gl gr
  rw [hM] at BR bl br
  have hln : M.K.length ≤ 20 := by have := bl.2.2; omega
  have BL := Lib.hid bl
  have GL := Lib.hid gl
  clear hL hk hs hG hM bl gl
  generalize L.length = ln at *
  go_enter Try.func8, Try.ntmps8
  go_wp2_with fail
  refine EX.out.mono ?_
  rintro e w1 ⟨rfl, b1⟩
  have B1 := Lib.hid b1
  clear b1 EX
  go_wp2_with fail
  refine (BR.out _ B1.out).mono ?_
  rintro e w2 ⟨⟨mk, mv, mc, nk, nv, nc, rfl, hR2, hf1, hf2, hf3⟩, b2⟩
  have B2 := Lib.hid (chain B1.out b2)
  have R2 := Lib.hid hR2
  clear b2 hR2 BR B1 hf1 hf2 hf3
  simp only [nodV]
  go_upto_region 5 with fail
  obtain ⟨w3, hw3'⟩ : ∃ w3, w2.alloc (.cells #[.bool M.leaf, .slice mk M.K.length nk, .slice mv M.V.length nv, .slice mc M.C.length nc] 26) = w3 := ⟨_, rfl⟩
  rw [hw3']
  have b3 : Below w2.heap.size w2 w3 := by rw [← hw3']; exact below_made _ _
  have X3 : Hid (w3.heap[w2.heap.size]? = some (.cells #[.bool M.leaf, .slice mk M.K.length nk, .slice mv M.V.length nv, .slice mc M.C.length nc] 26)) := Lib.hid (by rw [← hw3']; exact heap_alloc_new _ _)
  have R3 := Lib.hid (R2.out.below b3)
  have B3 := Lib.hid (chain B2.out b3)
  have B23 := Lib.hid b3
  clear hw3' b3 R2
  go_upto_if 22 with fail
  go_cut [7] (fun v wc => ∃ (N : Nod) (ak av ac : Option Addr) (ck cv cc : Nat), v = .int .i64 (leastN leaf : Int) ∧ N.leaf = leaf ∧ wholeB N = true ∧ Rise N.K ∧ N.K.length ≤ 20 ∧ wc.heap[w2.heap.size]? = some (.cells #[.bool N.leaf, .slice ak N.K.length ck, .slice av N.V.length cv, .slice ac N.C.length cc] 26) ∧ NodR wc N ak av ac ck cv cc ∧ Below w.heap.size w wc)
  case first =>
    cases leaf
    · go_wp2_with fail
      go_meet
      exact ⟨M, mk, mv, mc, nk, nv, nc, rfl, BL.out.1, BL.out.2.1, br, hln, X3.out, R3.out, B3.out⟩
    · go_wp2_with fail
      refine (GR.out _ B3.out).mono ?_
      rintro e w4 ⟨⟨ak, av, ac, ck, cv, cc, rfl, hR4, hf1, hf2, hf3⟩, b4⟩
      have X4 := kept X3.out b4
      have hlt : w2.heap.size < w3.heap.size := (Array.getElem?_eq_some_iff.1 X3.out).1
      have W4 : ((((w4.setCell ⟨w2.heap.size, 0, none⟩ (.bool G.leaf)).setCell ⟨w2.heap.size, 1, none⟩ (.slice ak G.K.length ck)).setCell ⟨w2.heap.size, 2, none⟩ (.slice av G.V.length cv)).setCell ⟨w2.heap.size, 3, none⟩ (.slice ac G.C.length cc)).heap[w2.heap.size]? = some (.cells #[.bool G.leaf, .slice ak G.K.length ck, .slice av G.V.length cv, .slice ac G.C.length cc] 26) := by
        rw [heap_setCell_same _ _ 3 _ _ _ (heap_setCell_same _ _ 2 _ _ _ (heap_setCell_same _ _ 1 _ _ _ (heap_setCell_same _ _ 0 _ _ _ X4)))]
        rfl
      have RW : NodR ((((w4.setCell ⟨w2.heap.size, 0, none⟩ (.bool G.leaf)).setCell ⟨w2.heap.size, 1, none⟩ (.slice ak G.K.length ck)).setCell ⟨w2.heap.size, 2, none⟩ (.slice av G.V.length cv)).setCell ⟨w2.heap.size, 3, none⟩ (.slice ac G.C.length cc)) G ak av ac ck cv cc := hR4.set4N _ _ _ _ _ (fun x hx => by have := hf1 x hx; omega) (fun x hx => by have := hf2 x hx; omega) (fun x hx => by have := hf3 x hx; omega)
      have hbw : Below w.heap.size w ((((w4.setCell ⟨w2.heap.size, 0, none⟩ (.bool G.leaf)).setCell ⟨w2.heap.size, 1, none⟩ (.slice ak G.K.length ck)).setCell ⟨w2.heap.size, 2, none⟩ (.slice av G.V.length cv)).setCell ⟨w2.heap.size, 3, none⟩ (.slice ac G.C.length cc)) := ((((chain B3.out b4).setCell B2.out.size _).setCell B2.out.size _).setCell B2.out.size _).setCell B2.out.size _
      have hun := fun k => Go.Joins.unfrozen_of_block X4 k
      have f0 := hun 0
      have f1 := hun 1
      have f2 := hun 2
      have f3 := hun 3
      have y0 : w4.cell? ⟨w2.heap.size, 0, none⟩ = some (.bool M.leaf) := by rw [Go.Joins.cell_of_block X4]; rfl
      have y1 : w4.cell? ⟨w2.heap.size, 1, none⟩ = some (.slice mk M.K.length nk) := by rw [Go.Joins.cell_of_block X4]; rfl
      have y2 : w4.cell? ⟨w2.heap.size, 2, none⟩ = some (.slice mv M.V.length nv) := by rw [Go.Joins.cell_of_block X4]; rfl
      have y3 : w4.cell? ⟨w2.heap.size, 3, none⟩ = some (.slice mc M.C.length nc) := by rw [Go.Joins.cell_of_block X4]; rfl
      clear hun hlt hf1 hf2 hf3 hR4 b4 X4
      have W4H := Lib.hid W4
      have RWH := Lib.hid RW
      have HBW := Lib.hid hbw
      clear W4 RW hbw
      simp only [nodV]
      go_wp2_with fail
      go_meet
      exact ⟨G, ak, av, ac, ck, cv, cc, rfl, GL.out.1, GL.out.2.1, gr, GL.out.2.2, W4H.out, RWH.out, HBW.out⟩
  case rest =>
    obtain ⟨N, ak, av, ac, ck, cv, cc, rfl, hNl, hNw, hNr, hN20, hX, hR, hB⟩ := hcut
    have HV := halves_of leaf N hNl hNw hNr hN20 hR.ok
    unfold Halves at HV
    have RF := Lib.hid (fun ak av ac ck cv cc w' => ref_is N ak av ac ck cv cc w')
    have NY := Lib.hid (fun ak av ac bk bv bc ck cv cc dk dv dc w' (hA : NodR w' N ak av ac ck cv cc) (hB : NodR w' N bk bv bc dk dv dc) => nodes_yes N ak av ac bk bv bc ck cv cc dk dv dc w' hA hB)
    have SZ := Lib.hid (fun ak av ac ck cv cc w' (h : NodR w' N ak av ac ck cv cc) => size_is N ak av ac ck cv cc w' h _ (Lib.hid rfl) hNw)
    have XC := Lib.hid hX
    have RC := Lib.hid hR
    have BC := Lib.hid hB
    have hkpos : ¬ sizeN N ≤ 240 → 0 < N.K.length := by
      intro hz
      have hb := fun h => (wholeB_branch (n := N) h).1 hNw
      have hlf := fun h => (wholeB_leaf (n := N) h).1 hNw
      unfold sizeN at hz
      cases h : N.leaf with
      | true =>
        have h1 := hlf h
        rw [h] at hz
        simp only [if_true] at hz
        rcases Nat.eq_zero_or_pos N.K.length with h0 | h0
        · have : N.V = [] := List.eq_nil_of_length_eq_zero (by omega)
          rw [this, h0] at hz
          simp [bytesV] at hz
        · exact h0
      | false =>
        have h1 := hb h
        rw [h] at hz
        simp only [Bool.false_eq_true, if_false] at hz
        omega
    have NZ := Lib.hid (fun (hz : ¬ sizeN N ≤ 240) bk bv bc dk dv dc w' (hB : NodR w' N bk bv bc dk dv dc) => nodes_zero N bk bv bc dk dv dc w' hB (hkpos hz))
    have hls : leastN leaf ≤ 3 := by unfold leastN; split <;> omega
    clear hX hR hB X3 R3 B3 B23 B2 GR GL gr BL br hln hNw hNr hNl hkpos
    generalize leastN leaf = lst at *
    rcases HV with ⟨hlt, hsp⟩ | ⟨A, B, mid, hsp, hAk, hBk, hjo, hA1, hB1, hA20, hB20⟩
    · have HS := Lib.hid hsp
      have hlti : (N.K.length : Int) < (lst : Int) := by omega
      have hltd : decide ((N.K.length : Int) < (lst : Int)) = true := by simpa using hlti
      clear hsp
      have y0 : wc.cell? ⟨w2.heap.size, 0, none⟩ = some (.bool N.leaf) := by rw [Go.Joins.cell_of_block XC.out]; rfl
      have y1 : wc.cell? ⟨w2.heap.size, 1, none⟩ = some (.slice ak N.K.length ck) := by rw [Go.Joins.cell_of_block XC.out]; rfl
      have y2 : wc.cell? ⟨w2.heap.size, 2, none⟩ = some (.slice av N.V.length cv) := by rw [Go.Joins.cell_of_block XC.out]; rfl
      have y3 : wc.cell? ⟨w2.heap.size, 3, none⟩ = some (.slice ac N.C.length cc) := by rw [Go.Joins.cell_of_block XC.out]; rfl
      go_wp2_with fail
      refine (HS.out _ _ _ _ _ _ _ RC.out).mono ?_
      rintro e w5 ⟨rfl, b5⟩
      have X5 := Lib.hid (kept XC.out b5)
      have B5 := Lib.hid (chain BC.out b5)
      have l5 : w2.heap.size < w5.heap.size := (Array.getElem?_eq_some_iff.1 X5.out).1
      clear b5 XC RC BC y0 y1 y2 y3 HS
      unfold zeroV
      go_upto_region 10 with fail
      obtain ⟨w6, hw6⟩ : ∃ w6, (w5.alloc (.cells #[.bool false, .slice none 0 0, .slice none 0 0, .slice none 0 0] 26)).alloc (.cells #[.bool false, .slice none 0 0, .slice none 0 0, .slice none 0 0] 26) = w6 := ⟨_, rfl⟩
      rw [hw6]
      have b6 : Below w5.heap.size w5 w6 := by rw [← hw6]; exact ((Below.refl _ _).alloc (Nat.le_refl _) _).alloc (by simp) _
      have X6 := Lib.hid (kept X5.out b6)
      have B6 := Lib.hid (chain B5.out b6)
      clear b6 hw6 X5 B5
      have y0 : w6.cell? ⟨w2.heap.size, 0, none⟩ = some (.bool N.leaf) := by rw [Go.Joins.cell_of_block X6.out]; rfl
      have y1 : w6.cell? ⟨w2.heap.size, 1, none⟩ = some (.slice ak N.K.length ck) := by rw [Go.Joins.cell_of_block X6.out]; rfl
      have y2 : w6.cell? ⟨w2.heap.size, 2, none⟩ = some (.slice av N.V.length cv) := by rw [Go.Joins.cell_of_block X6.out]; rfl
      have y3 : w6.cell? ⟨w2.heap.size, 3, none⟩ = some (.slice ac N.C.length cc) := by rw [Go.Joins.cell_of_block X6.out]; rfl
      go_wp2_with fail
      go_ret
      exact ⟨rfl, B6.out⟩
    · have HS := Lib.hid hsp
      have HAK := Lib.hid hAk
      have HBK := Lib.hid hBk
      have JO := Lib.hid hjo
      clear hsp hAk hBk hjo
      have y0 : wc.cell? ⟨w2.heap.size, 0, none⟩ = some (.bool N.leaf) := by rw [Go.Joins.cell_of_block XC.out]; rfl
      have y1 : wc.cell? ⟨w2.heap.size, 1, none⟩ = some (.slice ak N.K.length ck) := by rw [Go.Joins.cell_of_block XC.out]; rfl
      have y2 : wc.cell? ⟨w2.heap.size, 2, none⟩ = some (.slice av N.V.length cv) := by rw [Go.Joins.cell_of_block XC.out]; rfl
      have y3 : wc.cell? ⟨w2.heap.size, 3, none⟩ = some (.slice ac N.C.length cc) := by rw [Go.Joins.cell_of_block XC.out]; rfl
      go_wp2_with fail
      refine (HS.out _ _ _ _ _ _ _ RC.out).mono ?_
      rintro e w5 ⟨⟨pk, pv, pc, qk, qv, qc, rk, rv, rc, sk, sv, sc, rfl, hA5, hB5⟩, b5⟩
      have X5 := Lib.hid (kept XC.out b5)
      have R5 := Lib.hid (RC.out.below b5)
      have B5 := Lib.hid (chain BC.out b5)
      have AR5 := Lib.hid hA5
      have BR5 := Lib.hid hB5
      have l5 : w2.heap.size < w5.heap.size := (Array.getElem?_eq_some_iff.1 X5.out).1
      clear b5 XC RC BC y0 y1 y2 y3 HS hA5 hB5
      simp only [nodV]
      go_upto_region 10 with fail
      obtain ⟨w6, hw6⟩ : ∃ w6, (w5.alloc (.cells #[.bool A.leaf, .slice pk A.K.length qk, .slice pv A.V.length qv, .slice pc A.C.length qc] 26)).alloc (.cells #[.bool B.leaf, .slice rk B.K.length sk, .slice rv B.V.length sv, .slice rc B.C.length sc] 26) = w6 := ⟨_, rfl⟩
      rw [hw6]
      have b6 : Below w5.heap.size w5 w6 := by rw [← hw6]; exact ((Below.refl _ _).alloc (Nat.le_refl _) _).alloc (by simp) _
      have sz6 : (w5.alloc (.cells #[.bool A.leaf, .slice pk A.K.length qk, .slice pv A.V.length qv, .slice pc A.C.length qc] 26)).heap.size = w5.heap.size + 1 := by simp
      have PA : Hid (w6.heap[w5.heap.size]? = some (.cells #[.bool A.leaf, .slice pk A.K.length qk, .slice pv A.V.length qv, .slice pc A.C.length qc] 26)) := Lib.hid (by rw [← hw6]; exact (heap_alloc_old _ _ (by simp)).trans (heap_alloc_new _ _))
      have PB : Hid (w6.heap[w5.heap.size + 1]? = some (.cells #[.bool B.leaf, .slice rk B.K.length sk, .slice rv B.V.length sv, .slice rc B.C.length sc] 26)) := Lib.hid (by rw [← hw6, ← sz6]; exact heap_alloc_new _ _)
      have X6 := Lib.hid (kept X5.out b6)
      have R6 := Lib.hid (R5.out.below b6)
      have AR6 := Lib.hid (AR5.out.below b6)
      have BR6 := Lib.hid (BR5.out.below b6)
      have B6 := Lib.hid (chain B5.out b6)
      clear b6 hw6 sz6 X5 B5 R5 AR5 BR5 l5
      go_wp2_with fail
      go_loopw [12] (fun i wr => ∃ j : Nat, j ≤ A.K.length ∧ i = .int .i64 (j : Int) ∧ w6 = wr) (fun i _ => 21 - (intOf i).toNat)
      case atStart => exact ⟨0, Nat.zero_le _, rfl, rfl⟩
      case round =>
        obtain ⟨j, hj, rfl, rfl⟩ := hrel
        have p0 : w6.cell? ⟨w5.heap.size, 0, none⟩ = some (.bool A.leaf) := by rw [Go.Joins.cell_of_block PA.out]; rfl
        have p1 : w6.cell? ⟨w5.heap.size, 1, none⟩ = some (.slice pk A.K.length qk) := by rw [Go.Joins.cell_of_block PA.out]; rfl
        have p2 : w6.cell? ⟨w5.heap.size, 2, none⟩ = some (.slice pv A.V.length qv) := by rw [Go.Joins.cell_of_block PA.out]; rfl
        have p3 : w6.cell? ⟨w5.heap.size, 3, none⟩ = some (.slice pc A.C.length qc) := by rw [Go.Joins.cell_of_block PA.out]; rfl
        by_cases hlt : j < A.K.length
        · have hji : (j : Int) < (A.K.length : Int) := by omega
          obtain ⟨k, hk1, hk2⟩ := HAK.out j hlt
          obtain ⟨xb, xo, hxe, hxb, hxc⟩ := hk1 _ _ AR6.out.k
          subst hxe
          clear hk1 hxb
          go_wp2_with fail
          go_roundw
          case rel => exact ⟨j + 1, by omega, by go_num, by trivial⟩
          case measure => simp [intOf]; omega
        · obtain rfl : j = A.K.length := by omega
          have hji : ¬ (A.K.length : Int) < (A.K.length : Int) := by omega
          clear HAK
          go_wp2_with fail
          clear p0 p1 p2 p3
          go_loopw [13] (fun i wr => ∃ j : Nat, j ≤ B.K.length ∧ i = .int .i64 (j : Int) ∧ w6 = wr) (fun i _ => 21 - (intOf i).toNat)
          case atStart => exact ⟨0, Nat.zero_le _, rfl, rfl⟩
          case round =>
            obtain ⟨j, hj, rfl, rfl⟩ := hrel
            have q0 : w6.cell? ⟨w5.heap.size + 1, 0, none⟩ = some (.bool B.leaf) := by rw [Go.Joins.cell_of_block PB.out]; rfl
            have q1 : w6.cell? ⟨w5.heap.size + 1, 1, none⟩ = some (.slice rk B.K.length sk) := by rw [Go.Joins.cell_of_block PB.out]; rfl
            have q2 : w6.cell? ⟨w5.heap.size + 1, 2, none⟩ = some (.slice rv B.V.length sv) := by rw [Go.Joins.cell_of_block PB.out]; rfl
            have q3 : w6.cell? ⟨w5.heap.size + 1, 3, none⟩ = some (.slice rc B.C.length sc) := by rw [Go.Joins.cell_of_block PB.out]; rfl
            by_cases hlt : j < B.K.length
            · have hji : (j : Int) < (B.K.length : Int) := by omega
              obtain ⟨k, hk1, hk2, hk3⟩ := HBK.out j hlt
              obtain ⟨xb, xo, hxe, hxb, hxc⟩ := hk1 _ _ BR6.out.k
              subst hxe
              clear hk1 hxb
              cases leaf
              · have hk4 := hk3 rfl
                have hk5 : (k == mid) = false := by simpa using hk4
                clear hk3
                go_wp2_with fail
                go_roundw
                case rel => exact ⟨j + 1, by omega, by go_num, by trivial⟩
                case measure => simp [intOf]; omega
              · clear hk3
                go_wp2_with fail
                go_roundw
                case rel => exact ⟨j + 1, by omega, by go_num, by trivial⟩
                case measure => simp [intOf]; omega
            · obtain rfl : j = B.K.length := by omega
              have hji : ¬ (B.K.length : Int) < (B.K.length : Int) := by omega
              clear HBK
              have p0 : w6.cell? ⟨w5.heap.size, 0, none⟩ = some (.bool A.leaf) := by rw [Go.Joins.cell_of_block PA.out]; rfl
              have p1 : w6.cell? ⟨w5.heap.size, 1, none⟩ = some (.slice pk A.K.length qk) := by rw [Go.Joins.cell_of_block PA.out]; rfl
              have p2 : w6.cell? ⟨w5.heap.size, 2, none⟩ = some (.slice pv A.V.length qv) := by rw [Go.Joins.cell_of_block PA.out]; rfl
              have p3 : w6.cell? ⟨w5.heap.size, 3, none⟩ = some (.slice pc A.C.length qc) := by rw [Go.Joins.cell_of_block PA.out]; rfl
              have q0 : w6.cell? ⟨w5.heap.size + 1, 0, none⟩ = some (.bool B.leaf) := by rw [Go.Joins.cell_of_block PB.out]; rfl
              have q1 : w6.cell? ⟨w5.heap.size + 1, 1, none⟩ = some (.slice rk B.K.length sk) := by rw [Go.Joins.cell_of_block PB.out]; rfl
              have q2 : w6.cell? ⟨w5.heap.size + 1, 2, none⟩ = some (.slice rv B.V.length sv) := by rw [Go.Joins.cell_of_block PB.out]; rfl
              have q3 : w6.cell? ⟨w5.heap.size + 1, 3, none⟩ = some (.slice rc B.C.length sc) := by rw [Go.Joins.cell_of_block PB.out]; rfl
              go_wp2_with fail
              refine (JO.out _ _ _ _ _ _ _ _ _ _ _ _ _ AR6.out BR6.out).mono ?_
              rintro e w7 ⟨hJB, b7⟩
              have X7 := Lib.hid (kept X6.out b7)
              have R7 := Lib.hid (R6.out.below b7)
              have B7 := Lib.hid (chain B6.out b7)
              have PA7 := Lib.hid (kept PA.out b7)
              have PB7 := Lib.hid (kept PB.out b7)
              clear b7 X6 R6 B6 PA PB AR6 BR6 JO p0 p1 p2 p3 q0 q1 q2 q3
              by_cases hz : sizeN N ≤ 240
              · have hzi : (sizeN N : Int) ≤ 240 := by omega
                unfold JoinBack at hJB
                rw [if_pos hz] at hJB
                obtain ⟨tk, tv, tc, uk, uv, uc, rfl, hRJ⟩ := hJB
                have RJ := Lib.hid hRJ
                clear hRJ hz NZ
                simp only [nodV]
                go_upto_region 23 with fail
                obtain ⟨w8, hw8⟩ : ∃ w8, w7.alloc (.cells #[.bool N.leaf, .slice tk N.K.length uk, .slice tv N.V.length uv, .slice tc N.C.length uc] 26) = w8 := ⟨_, rfl⟩
                rw [hw8]
                have b8 : Below w7.heap.size w7 w8 := by rw [← hw8]; exact below_made _ _
                have J8 : Hid (w8.heap[w7.heap.size]? = some (.cells #[.bool N.leaf, .slice tk N.K.length uk, .slice tv N.V.length uv, .slice tc N.C.length uc] 26)) := Lib.hid (by rw [← hw8]; exact heap_alloc_new _ _)
                have X8 := Lib.hid (kept X7.out b8)
                have R8 := Lib.hid (R7.out.below b8)
                have B8 := Lib.hid (chain B7.out b8)
                have PA8 := Lib.hid (kept PA7.out b8)
                have PB8 := Lib.hid (kept PB7.out b8)
                have RJ8 := Lib.hid (RJ.out.below b8)
                clear b8 hw8 X7 R7 B7 PA7 PB7 RJ
                refine wp_region_held_drew (S := fun w' => Below w8.heap.size w8 w') (by kernel_rfl) (Below.refl w8.heap.size w8).drew (fun hS => ?_)
                refine held_take (i := 0) 90 (v := ?vj0x1) rfl rfl (by kernel_rfl) (by kernel_rfl) (by kernel_rfl) (fun _ _ _ h => h) hS (by rfl) ?hj0x1 ?rj0x1
                case hj0x1 =>
                  intro w9 s9
                  have X9 := kept J8.out s9
                  have c0 : w9.cell? ⟨w7.heap.size, 0, none⟩ = some (.bool N.leaf) := by rw [Go.Joins.cell_of_block X9]; rfl
                  have c1 : w9.cell? ⟨w7.heap.size, 1, none⟩ = some (.slice tk N.K.length uk) := by rw [Go.Joins.cell_of_block X9]; rfl
                  have c2 : w9.cell? ⟨w7.heap.size, 2, none⟩ = some (.slice tv N.V.length uv) := by rw [Go.Joins.cell_of_block X9]; rfl
                  have c3 : w9.cell? ⟨w7.heap.size, 3, none⟩ = some (.slice tc N.C.length uc) := by rw [Go.Joins.cell_of_block X9]; rfl
                  clear s9
                  go_simp
                  try (with_reducible rfl)
                simp only [List.setIfInBounds_toArray, List.set_cons_zero, List.set_cons_succ]
                refine held_take (i := 1) 91 (v := ?vj1x2) rfl rfl (by kernel_rfl) (by kernel_rfl) (by kernel_rfl) (fun _ _ _ h => h) hS (by rfl) ?hj1x2 ?rj1x2
                case hj1x2 =>
                  intro w9 s9
                  have X9 := kept X8.out s9
                  have c0 : w9.cell? ⟨w2.heap.size, 0, none⟩ = some (.bool N.leaf) := by rw [Go.Joins.cell_of_block X9]; rfl
                  have c1 : w9.cell? ⟨w2.heap.size, 1, none⟩ = some (.slice ak N.K.length ck) := by rw [Go.Joins.cell_of_block X9]; rfl
                  have c2 : w9.cell? ⟨w2.heap.size, 2, none⟩ = some (.slice av N.V.length cv) := by rw [Go.Joins.cell_of_block X9]; rfl
                  have c3 : w9.cell? ⟨w2.heap.size, 3, none⟩ = some (.slice ac N.C.length cc) := by rw [Go.Joins.cell_of_block X9]; rfl
                  clear s9
                  go_simp
                  try (with_reducible rfl)
                simp only [List.setIfInBounds_toArray, List.set_cons_zero, List.set_cons_succ]
                refine held_step (i := 2) rfl (by kernel_rfl) (fun K hK => ?_)
                have HK := Lib.hid hK
                clear hK
                go_simp
                go_wp2_with fail
                refine (RF.out _ _ _ _ _ _ _).mono ?_
                rintro e u5 ⟨rfl, b5⟩
                simp only [nodV]
                refine HK.out _ _ ?_ ?_
                · exact chain hS b5
                clear HK K
                try simp only [Act.put, List.setIfInBounds_toArray, List.set_cons_zero, List.set_cons_succ]
                have hS9 := chain hS b5
                clear hS
                have hS := hS9
                clear hS9
                clear b5
                refine held_step (i := 3) rfl (by kernel_rfl) (fun K hK => ?_)
                have HK := Lib.hid hK
                clear hK
                go_simp
                go_wp2_with fail
                refine (NY.out _ _ _ _ _ _ _ _ _ _ _ _ _ (RJ8.out.below hS) (R8.out.below hS)).mono ?_
                rintro e u6 ⟨rfl, b6⟩
                refine HK.out _ _ ?_ ?_
                · exact chain hS b6
                clear HK K
                try simp only [Act.put, List.setIfInBounds_toArray, List.set_cons_zero, List.set_cons_succ]
                have hS9 := chain hS b6
                clear hS
                have hS := hS9
                clear hS9
                clear b6
                refine held_take (i := 4) 16 (v := ?vj4x3) rfl rfl (by kernel_rfl) (by kernel_rfl) (by kernel_rfl) (fun _ _ _ h => h) hS (by rfl) ?hj4x3 ?rj4x3
                case hj4x3 =>
                  intro w9 s9
                  clear s9
                  go_simp
                  try (with_reducible rfl)
                simp only [List.setIfInBounds_toArray, List.set_cons_zero, List.set_cons_succ]
                refine wpAnyH_done (by kernel_rfl) ?_ _
                have H9 := Lib.hid hS
                clear hS
                have X9 := Lib.hid (kept X8.out H9.out)
                have R9 := Lib.hid (R8.out.below H9.out)
                have B9 := Lib.hid (chain B8.out H9.out)
                have PA9 := Lib.hid (kept PA8.out H9.out)
                have PB9 := Lib.hid (kept PB8.out H9.out)
                clear X8 R8 B8 PA8 PB8 H9 J8 RF
                have y0 : u6.cell? ⟨w2.heap.size, 0, none⟩ = some (.bool N.leaf) := by rw [Go.Joins.cell_of_block X9.out]; rfl
                have y1 : u6.cell? ⟨w2.heap.size, 1, none⟩ = some (.slice ak N.K.length ck) := by rw [Go.Joins.cell_of_block X9.out]; rfl
                have y2 : u6.cell? ⟨w2.heap.size, 2, none⟩ = some (.slice av N.V.length cv) := by rw [Go.Joins.cell_of_block X9.out]; rfl
                have y3 : u6.cell? ⟨w2.heap.size, 3, none⟩ = some (.slice ac N.C.length cc) := by rw [Go.Joins.cell_of_block X9.out]; rfl
                have p0 : u6.cell? ⟨w5.heap.size, 0, none⟩ = some (.bool A.leaf) := by rw [Go.Joins.cell_of_block PA9.out]; rfl
                have p1 : u6.cell? ⟨w5.heap.size, 1, none⟩ = some (.slice pk A.K.length qk) := by rw [Go.Joins.cell_of_block PA9.out]; rfl
                have p2 : u6.cell? ⟨w5.heap.size, 2, none⟩ = some (.slice pv A.V.length qv) := by rw [Go.Joins.cell_of_block PA9.out]; rfl
                have p3 : u6.cell? ⟨w5.heap.size, 3, none⟩ = some (.slice pc A.C.length qc) := by rw [Go.Joins.cell_of_block PA9.out]; rfl
                have q0 : u6.cell? ⟨w5.heap.size + 1, 0, none⟩ = some (.bool B.leaf) := by rw [Go.Joins.cell_of_block PB9.out]; rfl
                have q1 : u6.cell? ⟨w5.heap.size + 1, 1, none⟩ = some (.slice rk B.K.length sk) := by rw [Go.Joins.cell_of_block PB9.out]; rfl
                have q2 : u6.cell? ⟨w5.heap.size + 1, 2, none⟩ = some (.slice rv B.V.length sv) := by rw [Go.Joins.cell_of_block PB9.out]; rfl
                have q3 : u6.cell? ⟨w5.heap.size + 1, 3, none⟩ = some (.slice rc B.C.length sc) := by rw [Go.Joins.cell_of_block PB9.out]; rfl
                have g1 : (1 : Int) ≤ (A.K.length : Int) := by omega
                have g2 : (1 : Int) ≤ (B.K.length : Int) := by omega
                go_wp2_with fail
                refine (SZ.out _ _ _ _ _ _ _ R9.out).mono ?_
                rintro e u7 ⟨rfl, b7⟩
                have B10 := chain B9.out b7
                go_wp2_with fail
                go_ret
                first | exact ⟨rfl, B10⟩ | exact ⟨ret_bool (by simp; omega), B10⟩
              · have hzi : ¬ (sizeN N : Int) ≤ 240 := by omega
                unfold JoinBack at hJB
                rw [if_neg hz] at hJB
                subst hJB
                have NZ2 := Lib.hid (NZ.out hz)
                clear hz NZ NY
                unfold zeroV at *
                go_upto_region 23 with fail
                obtain ⟨w8, hw8⟩ : ∃ w8, w7.alloc (.cells #[.bool false, .slice none 0 0, .slice none 0 0, .slice none 0 0] 26) = w8 := ⟨_, rfl⟩
                rw [hw8]
                have b8 : Below w7.heap.size w7 w8 := by rw [← hw8]; exact below_made _ _
                have J8 : Hid (w8.heap[w7.heap.size]? = some (.cells #[.bool false, .slice none 0 0, .slice none 0 0, .slice none 0 0] 26)) := Lib.hid (by rw [← hw8]; exact heap_alloc_new _ _)
                have X8 := Lib.hid (kept X7.out b8)
                have R8 := Lib.hid (R7.out.below b8)
                have B8 := Lib.hid (chain B7.out b8)
                have PA8 := Lib.hid (kept PA7.out b8)
                have PB8 := Lib.hid (kept PB7.out b8)
                clear b8 hw8 X7 R7 B7 PA7 PB7
                refine wp_region_held_drew (S := fun w' => Below w8.heap.size w8 w') (by kernel_rfl) (Below.refl w8.heap.size w8).drew (fun hS => ?_)
                refine held_take (i := 0) 90 (v := ?vn0x1) rfl rfl (by kernel_rfl) (by kernel_rfl) (by kernel_rfl) (fun _ _ _ h => h) hS (by rfl) ?hn0x1 ?rn0x1
                case hn0x1 =>
                  intro w9 s9
                  have X9 := kept J8.out s9
                  have c0 : w9.cell? ⟨w7.heap.size, 0, none⟩ = some (.bool false) := by rw [Go.Joins.cell_of_block X9]; rfl
                  have c1 : w9.cell? ⟨w7.heap.size, 1, none⟩ = some (.slice none 0 0) := by rw [Go.Joins.cell_of_block X9]; rfl
                  have c2 : w9.cell? ⟨w7.heap.size, 2, none⟩ = some (.slice none 0 0) := by rw [Go.Joins.cell_of_block X9]; rfl
                  have c3 : w9.cell? ⟨w7.heap.size, 3, none⟩ = some (.slice none 0 0) := by rw [Go.Joins.cell_of_block X9]; rfl
                  clear s9
                  go_simp
                  try (with_reducible rfl)
                simp only [List.setIfInBounds_toArray, List.set_cons_zero, List.set_cons_succ]
                refine held_take (i := 1) 91 (v := ?vn1x2) rfl rfl (by kernel_rfl) (by kernel_rfl) (by kernel_rfl) (fun _ _ _ h => h) hS (by rfl) ?hn1x2 ?rn1x2
                case hn1x2 =>
                  intro w9 s9
                  have X9 := kept X8.out s9
                  have c0 : w9.cell? ⟨w2.heap.size, 0, none⟩ = some (.bool N.leaf) := by rw [Go.Joins.cell_of_block X9]; rfl
                  have c1 : w9.cell? ⟨w2.heap.size, 1, none⟩ = some (.slice ak N.K.length ck) := by rw [Go.Joins.cell_of_block X9]; rfl
                  have c2 : w9.cell? ⟨w2.heap.size, 2, none⟩ = some (.slice av N.V.length cv) := by rw [Go.Joins.cell_of_block X9]; rfl
                  have c3 : w9.cell? ⟨w2.heap.size, 3, none⟩ = some (.slice ac N.C.length cc) := by rw [Go.Joins.cell_of_block X9]; rfl
                  clear s9
                  go_simp
                  try (with_reducible rfl)
                simp only [List.setIfInBounds_toArray, List.set_cons_zero, List.set_cons_succ]
                refine held_step (i := 2) rfl (by kernel_rfl) (fun K hK => ?_)
                have HK := Lib.hid hK
                clear hK
                go_simp
                go_wp2_with fail
                refine (RF.out _ _ _ _ _ _ _).mono ?_
                rintro e u5 ⟨rfl, b5⟩
                simp only [nodV]
                refine HK.out _ _ ?_ ?_
                · exact chain hS b5
                clear HK K
                try simp only [Act.put, List.setIfInBounds_toArray, List.set_cons_zero, List.set_cons_succ]
                have hS9 := chain hS b5
                clear hS
                have hS := hS9
                clear hS9
                clear b5
                refine held_step (i := 3) rfl (by kernel_rfl) (fun K hK => ?_)
                have HK := Lib.hid hK
                clear hK
                go_simp
                go_wp2_with fail
                refine (NZ2.out _ _ _ _ _ _ _ (R8.out.below hS)).mono ?_
                rintro e u6 ⟨rfl, b6⟩
                refine HK.out _ _ ?_ ?_
                · exact chain hS b6
                clear HK K
                try simp only [Act.put, List.setIfInBounds_toArray, List.set_cons_zero, List.set_cons_succ]
                have hS9 := chain hS b6
                clear hS
                have hS := hS9
                clear hS9
                clear b6
                refine held_take (i := 4) 16 (v := ?vn4x3) rfl rfl (by kernel_rfl) (by kernel_rfl) (by kernel_rfl) (fun _ _ _ h => h) hS (by rfl) ?hn4x3 ?rn4x3
                case hn4x3 =>
                  intro w9 s9
                  clear s9
                  go_simp
                  try (with_reducible rfl)
                simp only [List.setIfInBounds_toArray, List.set_cons_zero, List.set_cons_succ]
                refine wpAnyH_done (by kernel_rfl) ?_ _
                have H9 := Lib.hid hS
                clear hS
                have X9 := Lib.hid (kept X8.out H9.out)
                have R9 := Lib.hid (R8.out.below H9.out)
                have B9 := Lib.hid (chain B8.out H9.out)
                have PA9 := Lib.hid (kept PA8.out H9.out)
                have PB9 := Lib.hid (kept PB8.out H9.out)
                clear X8 R8 B8 PA8 PB8 H9 J8 RF
                have y0 : u6.cell? ⟨w2.heap.size, 0, none⟩ = some (.bool N.leaf) := by rw [Go.Joins.cell_of_block X9.out]; rfl
                have y1 : u6.cell? ⟨w2.heap.size, 1, none⟩ = some (.slice ak N.K.length ck) := by rw [Go.Joins.cell_of_block X9.out]; rfl
                have y2 : u6.cell? ⟨w2.heap.size, 2, none⟩ = some (.slice av N.V.length cv) := by rw [Go.Joins.cell_of_block X9.out]; rfl
                have y3 : u6.cell? ⟨w2.heap.size, 3, none⟩ = some (.slice ac N.C.length cc) := by rw [Go.Joins.cell_of_block X9.out]; rfl
                have p0 : u6.cell? ⟨w5.heap.size, 0, none⟩ = some (.bool A.leaf) := by rw [Go.Joins.cell_of_block PA9.out]; rfl
                have p1 : u6.cell? ⟨w5.heap.size, 1, none⟩ = some (.slice pk A.K.length qk) := by rw [Go.Joins.cell_of_block PA9.out]; rfl
                have p2 : u6.cell? ⟨w5.heap.size, 2, none⟩ = some (.slice pv A.V.length qv) := by rw [Go.Joins.cell_of_block PA9.out]; rfl
                have p3 : u6.cell? ⟨w5.heap.size, 3, none⟩ = some (.slice pc A.C.length qc) := by rw [Go.Joins.cell_of_block PA9.out]; rfl
                have q0 : u6.cell? ⟨w5.heap.size + 1, 0, none⟩ = some (.bool B.leaf) := by rw [Go.Joins.cell_of_block PB9.out]; rfl
                have q1 : u6.cell? ⟨w5.heap.size + 1, 1, none⟩ = some (.slice rk B.K.length sk) := by rw [Go.Joins.cell_of_block PB9.out]; rfl
                have q2 : u6.cell? ⟨w5.heap.size + 1, 2, none⟩ = some (.slice rv B.V.length sv) := by rw [Go.Joins.cell_of_block PB9.out]; rfl
                have q3 : u6.cell? ⟨w5.heap.size + 1, 3, none⟩ = some (.slice rc B.C.length sc) := by rw [Go.Joins.cell_of_block PB9.out]; rfl
                have g1 : (1 : Int) ≤ (A.K.length : Int) := by omega
                have g2 : (1 : Int) ≤ (B.K.length : Int) := by omega
                go_wp2_with fail
                refine (SZ.out _ _ _ _ _ _ _ R9.out).mono ?_
                rintro e u7 ⟨rfl, b7⟩
                have B10 := chain B9.out b7
                go_wp2_with fail
                go_ret
                first | exact ⟨rfl, B10⟩ | exact ⟨ret_bool (by simp; omega), B10⟩
end Go.Proofs.Ytkdcoipbdkmieaa
