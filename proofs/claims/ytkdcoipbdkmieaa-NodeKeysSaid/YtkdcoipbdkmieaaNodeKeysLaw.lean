/-
  The law NodeKeys of package bailiwicklaw10.
-/
import Derived.Test.YtkdcoipbdkmieaaNodeX
import Derived.Test.YtkdcoipbdkmieaaNodeKy
import Derived.Test.YtkdcoipbdkmieaaPairs
import Derived.Test.YtkdcoipbdkmieaaWays
import Derived.Deep.CutBlock
import Derived.Deep.DeepCutAuto
namespace Go.Proofs.Ytkdcoipbdkmieaa
open Go.RowKit
set_option linter.unusedVariables false
set_option linter.unusedSimpArgs false
/-- A row of a node's, at place i. -/
def AtU (n : Nod) (i : Nat) (k : Int) : Prop := ∀ (w : World) (a : Option Addr), Rd w a (n.K.map ukey) → ∃ b off, a = some ⟨b, off, none⟩ ∧ b < w.heap.size ∧ w.cell? ⟨b, off + i, none⟩ = some (.int .u64 k)
def AtS (n : Nod) (i : Nat) (v : ByteArray) : Prop := ∀ (w : World) (a : Option Addr), Rd w a (n.V.map Value.string) → ∃ b off, a = some ⟨b, off, none⟩ ∧ b < w.heap.size ∧ w.cell? ⟨b, off + i, none⟩ = some (.string v)
theorem atU (n : Nod) (i : Nat) (h : i < n.K.length) : AtU n i n.K[i] := by
  intro w a hr
  obtain ⟨b, off, q1, q2, q3⟩ := hr.at i (by simpa using h)
  exact ⟨b, off, q1, q2, by rw [q3]; simp [ukey]⟩
theorem atS (n : Nod) (i : Nat) (h : i < n.V.length) : AtS n i n.V[i] := by
  intro w a hr
  obtain ⟨b, off, q1, q2, q3⟩ := hr.at i (by simpa using h)
  exact ⟨b, off, q1, q2, by rw [q3]; simp⟩
/-- The map looked at. -/
def LooksAt (M : List (Int × ByteArray)) (k : Int) (v : ByteArray) (ok : Bool) : Prop := ∀ (w : World) (r : Nat), MapU w r M →
  (Instr.lookup 63 (.map (some r)) (.int .u64 k) false).run Try.prog w = .ok (.string v) w ∧ (Instr.lookup 63 (.map (some r)) (.int .u64 k) true).run Try.prog w = .ok (.tuple #[.string v, .bool ok]) w
theorem zero_str (w : World) : (zeroValue 9).run Try.prog w = .ok (.string ByteArray.empty) w := by kernel_rfl
theorem looks (M : List (Int × ByteArray)) (k : Int) (v : ByteArray) (ok : Bool) (h1 : (getM M k).getD ByteArray.empty = v) (h2 : (getM M k).isSome = ok) : LooksAt M k v ok := by
  intro w r h
  have e1 := lookupU (P := Try.prog) Try.underlying63 Try.underlying27 h k (zero_str w) false
  have e2 := lookupU (P := Try.prog) Try.underlying63 Try.underlying27 h k (zero_str w) true
  rw [h1] at e1
  rw [h1, h2] at e2
  exact ⟨by rw [e1]; rfl, by rw [e2]; rfl⟩
/-- What the law asks of the leaf without key o. -/
def OutAt (N : Nod) (o : Nat) : Prop := ∃ (O : Nod) (ko : Int) (vo : ByteArray), O.K.length + 1 = N.K.length ∧ AtU N o ko ∧ AtS N o vo ∧
  (∀ ak av ac ck cv cc w', NodR w' N ak av ac ck cv cc → Calls Try.prog 14 #[nodV N ak av ac ck cv cc, .int .i64 (o : Int)] w' fun e w'' => NodBack w'.heap.size O e w'' ∧ Below w'.heap.size w' w'') ∧
  (∀ ak av ac ck cv cc w', NodR w' O ak av ac ck cv cc → Calls Try.prog 12 #[nodV O ak av ac ck cv cc, .int .u64 ko] w' fun e w'' => e = .returned (.tuple #[.int .i64 (o : Int), .bool false]) ∧ Below w'.heap.size w' w'') ∧
  (∀ ak av ac ck cv cc w', NodOk N → NodR w' O ak av ac ck cv cc → Calls Try.prog 13 #[nodV O ak av ac ck cv cc, .int .u64 ko, .string vo] w' fun e w'' => NodBack w'.heap.size N e w'' ∧ Below w'.heap.size w' w'')
theorem out_at (N : Nod) (hl : N.leaf = true) (hw : wholeB N = true) (hr : Rise N.K) (hn : N.K.length ≤ 20) (o : Nat) (ho : o < N.K.length) : OutAt N o := by
  have hv := (wholeB_leaf hl).1 hw
  have hov : o < N.V.length := by omega
  obtain ⟨h1, h2, h3, h4, h5⟩ := out_facts N hl hw hr o ho hov
  refine ⟨withoutN N o, N.K[o], N.V[o], h3, atU N o ho, atS N o hov, fun ak av ac ck cv cc w' h => without_is N ak av ac ck cv cc w' h o hl hw ho, fun ak av ac ck cv cc w' h => find_is _ ak av ac ck cv cc w' h _ o false (Lib.hid h4), fun ak av ac ck cv cc w' hok h => ?_⟩
  have := put_is (withoutN N o) ak av ac ck cv cc w' h N.K[o] N.V[o] h1 h2 (by omega) (hok.kb _ (List.getElem_mem ho)) (hok.vb _ (List.getElem_mem hov))
  rw [h5] at this
  exact this
theorem growN_min (L : List (Int × ByteArray)) : growN L (min L.length 20) = growN L 20 := by
  unfold growN
  congr 1
  rcases Nat.le_total L.length 20 with h | h
  · rw [Nat.min_eq_left h, List.take_of_length_le (Nat.le_refl _), List.take_of_length_le h]
  · rw [Nat.min_eq_right h]
set_option maxHeartbeats 12800000 in
set_option maxRecDepth 20000 in
theorem nodeKeys_law (a : Option Addr) (len cap : Nat) (key out : Int) (w : World) (hpr : IsPairs w a len) (hkeyw : (Lit.int .u64 key).wf = true) (houtw : (Lit.int .i64 out).wf = true) :
    Calls Try.prog 6 #[.slice a len cap, .int .u64 key, .int .i64 out] w fun e w' => e = .returned (.bool true) ∧ Below w.heap.size w w' := by
  obtain ⟨L, rfl, hL, hk, hs⟩ := hpr
  have hkey := u64_rng key hkeyw
  have hout : -9223372036854775808 ≤ out ∧ out ≤ 9223372036854775807 := by
    simp [Lit.wf] at houtw
    have h1 : IntKind.i64.min = -9223372036854775808 := by rfl
    have h2 : IntKind.i64.max = 9223372036854775807 := by rfl
    omega
  have EX := Lib.hid (examples_yes w)
  have GR := Lib.hid (fun w' (hb : Below w.heap.size w w') => grow_any a cap L w' (hL.below hb) hk hs)
  have gl := growN_leaf L 20
  have gr := growN_rise L 20
  have hmg := map_grow L (min L.length 20) (Nat.min_le_left _ _)
  rw [growN_min] at hmg
  obtain ⟨N, hN⟩ : ∃ N, growN L 20 = N := ⟨_, rfl⟩
  rw [hN] at GR gl gr hmg
  obtain ⟨M, hM⟩ : ∃ M, mapN L (min L.length 20) = M := ⟨_, rfl⟩
  rw [hM] at hmg
  have hvl := (wholeB_leaf gl.1).1 gl.2.1
  obtain ⟨p, hpe⟩ : ∃ p, (findN N key).1 = p := ⟨_, rfl⟩
  obtain ⟨ok, hoe⟩ : ∃ ok, (findN N key).2 = ok := ⟨_, rfl⟩
  have hp : findN N key = (p, ok) := by rw [← hpe, ← hoe]
  have hple := findN_le N key
  rw [hpe] at hple
  have hfl := (findN_leaf N key gl.1 gl.2.1).2.1
  have hplt := findN_lt N key
  rw [hoe, hpe] at hfl hplt
  have hsome := find_get N key gl.1 gl.2.1 gr
  rw [← hmg.1, hoe] at hsome
  have FN := Lib.hid (fun ak av ac ck cv cc w' (h : NodR w' N ak av ac ck cv cc) => find_is N ak av ac ck cv cc w' h key p ok (Lib.hid hp))
  obtain ⟨lx, hlx⟩ : ∃ lx, (getM M key).getD ByteArray.empty = lx := ⟨_, rfl⟩
  have LK := Lib.hid (looks M key lx ok hlx hsome)
  have KEY : Hid (ok = true → AtU N p key) := Lib.hid (fun h => by
    have h1 := hplt h gl.1
    obtain ⟨hq, hq2⟩ := List.getElem?_eq_some_iff.1 (hfl h)
    have := atU N p h1
    rw [hq2] at this
    exact this)
  have LI : Hid (∀ i, i < N.K.length → ∃ ki vi, AtU N i ki ∧ AtS N i vi ∧ LooksAt M ki vi true ∧ (0 < i → ∃ k0, AtU N (i - 1) k0 ∧ k0 < ki)) := Lib.hid (by
    intro i hi
    have hv : i < N.V.length := by omega
    have hg := get_at N gl.1 gl.2.1 gr i hi hv
    rw [← hmg.1] at hg
    refine ⟨N.K[i], N.V[i], atU N i hi, atS N i hv, looks M _ _ _ (by rw [hg]; rfl) (by rw [hg]; rfl), fun h0 => ?_⟩
    exact ⟨N.K[i - 1], atU N (i - 1) (by omega), List.pairwise_iff_getElem.1 gr (i - 1) i (by omega) hi (by omega)⟩)
  have LEN : Hid (∀ (w' : World) (r : Nat), MapU w' r M → (Builtin.len_ #[63] 3 #[.map (some r)]).run Try.prog w' = .ok (.int .i64 (N.K.length : Int)) w') := Lib.hid (fun w' r h => by
    have := lenU (P := Try.prog) Try.underlying63 h 3
    rw [hmg.2] at this
    exact this)
  have PT : Hid (∀ j, j < L.length → ∃ k v x, v.extract 0 (min (v.size : Int) 40).toNat = x ∧ mapN L (j + 1) = setM (mapN L j) k x ∧ v.size ≤ 9223372036854775807 ∧ ∀ w', Below w.heap.size w w' → ∃ b off, a = some ⟨b, off, none⟩ ∧ b < w'.heap.size ∧ w'.cell? ⟨b, off + j * 2, none⟩ = some (.int .u64 k) ∧ w'.cell? ⟨b, off + j * 2 + 1, none⟩ = some (.string v)) := Lib.hid (by
    intro j hj
    refine ⟨L[j].1, L[j].2, cut40 L[j].2, ?_, ?_, hs _ (List.getElem_mem hj), fun w' hb => (hL.below hb).at j hj⟩
    · unfold cut40; rw [show (min (L[j].2.size : Int) 40).toNat = min L[j].2.size 40 from by omega]
    · rw [mapN, List.getD_eq_getElem?_getD, List.getElem?_eq_getElem hj]; rfl)
  have UP : Hid (∀ (w' : World) (r : Nat) (L' : List (Int × ByteArray)) (k : Int) (x : ByteArray), MapU w' r L' → ∃ w'', (Instr.mapUpdate 63 (.map (some r)) (.int .u64 k) (.string x)).run Try.prog w' = .ok () w'' ∧ MapU w'' r (setM L' k x) ∧ Below r w' w'' ∧ w''.heap.size = w'.heap.size) := Lib.hid (fun w' r L' k x h => updateB (P := Try.prog) Try.underlying63 Try.underlying27 h k x)
  have OUT := Lib.hid (out_at N gl.1 gl.2.1 gr gl.2.2)
  have RF := Lib.hid (fun ak av ac ck cv cc w' => ref_is N ak av ac ck cv cc w')
  have ND := Lib.hid (fun ak av ac bk bv bc ck cv cc dk dv dc w' (hA : NodR w' N ak av ac ck cv cc) (hB : NodR w' N bk bv bc dk dv dc) => nodes_yes N ak av ac bk bv bc ck cv cc dk dv dc w' hA hB)
  have HM := Lib.hid hM
  have HVL := Lib.hid hvl.1
  have hn20 : N.K.length ≤ 20 := gl.2.2
  have HPL := Lib.hid hple
  have HPT := Lib.hid (fun h => hplt h gl.1)
  have HOUT := Lib.hid hout
  clear hL hk hs hkey gl gr hmg hN hM hvl hpe hoe hp hple hfl hplt hsome hlx hout hkeyw houtw
  generalize L.length = ln at *
  go_enter Try.func6, Try.ntmps6
  go_wp2_with fail
  refine EX.out.mono ?_
  rintro e w1 ⟨rfl, b1⟩
  have B1 := Lib.hid b1
  clear b1 EX
  go_wp2_with fail
  refine (GR.out _ B1.out).mono ?_
  rintro e w2 ⟨⟨ak, av, ac, ck, cv, cc, rfl, hR2, -, -, -⟩, b2⟩
  have B2 := Lib.hid (chain B1.out b2)
  have R2 := Lib.hid hR2
  clear b2 hR2 GR B1
  simp only [nodV]
  go_upto_region 5 with fail
  obtain ⟨w3, hw3'⟩ : ∃ w3, w2.alloc (.cells #[.bool N.leaf, .slice ak N.K.length ck, .slice av N.V.length cv, .slice ac N.C.length cc] 26) = w3 := ⟨_, rfl⟩
  rw [hw3']
  have b3 : Below w2.heap.size w2 w3 := by rw [← hw3']; exact below_made _ _
  have X3 : Hid (w3.heap[w2.heap.size]? = some (.cells #[.bool N.leaf, .slice ak N.K.length ck, .slice av N.V.length cv, .slice ac N.C.length cc] 26)) := Lib.hid (by rw [← hw3']; exact heap_alloc_new _ _)
  have R3 := Lib.hid (R2.out.below b3)
  have B3 := Lib.hid (chain B2.out b3)
  clear hw3' b3 R2 B2
  have hmm : (Instr.makeMap 63 none).run Try.prog w3 = .ok (.map (some w3.heap.size)) (w3.alloc (.map #[] 0)) := by simp [Instr.makeMap]
  go_upto_block 0 with fail
  obtain ⟨w4, hw4⟩ : ∃ w4, w3.alloc (.map #[] 0) = w4 := ⟨_, rfl⟩
  rw [hw4]
  have M4 : Hid (MapU w4 w3.heap.size (mapN L 0)) := Lib.hid ⟨#[], 0, by rw [← hw4]; exact heap_alloc_new _ _, rfl⟩
  have B4 : Hid (Below w3.heap.size w3 w4) := Lib.hid (by rw [← hw4]; exact below_made _ _)
  clear hw4 hmm
  go_cut [10] (fun _ wc => Below w3.heap.size w3 wc ∧ MapU wc w3.heap.size M)
  case first =>
    go_wp2_with fail
    go_loopw [10] (fun i wr => ∃ j : Nat, j ≤ ln ∧ j ≤ 20 ∧ i = .int .i64 (j : Int) ∧ Below w3.heap.size w3 wr ∧ MapU wr w3.heap.size (mapN L j)) (fun i _ => 21 - (intOf i).toNat)
    case atStart => exact ⟨0, Nat.zero_le _, Nat.zero_le _, rfl, B4.out, M4.out⟩
    case round =>
      obtain ⟨j, hj1, hj2, rfl, hBw, hMw⟩ := hrel
      have BW := Lib.hid hBw
      have MW := Lib.hid hMw
      clear hBw hMw
      by_cases h1 : j < ln
      · have h1i : (j : Int) < (ln : Int) := by omega
        by_cases h2 : j < 20
        · have h2i : (j : Int) < 20 := by omega
          obtain ⟨k, v, x, hx, hmap, hvs, hcell⟩ := PT.out j h1
          have HC := Lib.hid hcell
          have HMAP := Lib.hid hmap
          have hvsi : (v.size : Int) ≤ 9223372036854775807 := by omega
          have hmn1 : (0 : Int) ≤ min (v.size : Int) 40 := by omega
          have hmn2 : min (v.size : Int) 40 ≤ (v.size : Int) := by omega
          clear hcell hmap hvs
          obtain ⟨b, off, rfl, -, -, -⟩ := HC.out wr (chain B3.out BW.out)
          have C0 : Hid (∀ w', Below wr.heap.size wr w' → w'.cell? ⟨b, off + j * 2, none⟩ = some (.int .u64 k)) := Lib.hid (fun w' hb => by
            obtain ⟨b', off', he, -, h3, h4⟩ := HC.out w' (chain (chain B3.out BW.out) hb)
            cases he
            exact h3)
          have C1 : Hid (∀ w', Below wr.heap.size wr w' → w'.cell? ⟨b, off + j * 2 + 1, none⟩ = some (.string v)) := Lib.hid (fun w' hb => by
            obtain ⟨b', off', he, -, h3, h4⟩ := HC.out w' (chain (chain B3.out BW.out) hb)
            cases he
            exact h4)
          clear HC
          go_wp2_with fail
          refine region_ways (fun w' => Below wr.heap.size wr w') 19 (by kernel_rfl) ?_
          have hS := (Below.refl wr.heap.size wr).drew
          refine ways_skipd (i := 0) 36 (v := ?va0) rfl rfl (by kernel_rfl) (by kernel_rfl) (by kernel_rfl) (by kernel_rfl) (fun _ _ _ h => h) hS (by rfl) ?ha0 ?ra0
          case ha0 =>
            intro w9
            go_simp
            try (with_reducible rfl)
          simp only [List.setIfInBounds_toArray, List.set_cons_zero, List.set_cons_succ]
          refine ways_skipd (i := 1) 37 (v := ?va1) rfl rfl (by kernel_rfl) (by kernel_rfl) (by kernel_rfl) (by kernel_rfl) (fun _ _ _ h => h) hS (by rfl) ?ha1 ?ra1
          case ha1 =>
            intro w9
            go_simp
            try (with_reducible rfl)
          simp only [List.setIfInBounds_toArray, List.set_cons_zero, List.set_cons_succ]
          refine ways_skipd (i := 2) 38 (v := ?va2) rfl rfl (by kernel_rfl) (by kernel_rfl) (by kernel_rfl) (by kernel_rfl) (fun _ _ _ h => h) hS (by rfl) ?ha2 ?ra2
          case ha2 =>
            intro w9
            go_simp
            try (with_reducible rfl)
          simp only [List.setIfInBounds_toArray, List.set_cons_zero, List.set_cons_succ]
          refine ways_skipd (i := 3) 39 (v := ?va3) rfl rfl (by kernel_rfl) (by kernel_rfl) (by kernel_rfl) (by kernel_rfl) (fun _ _ _ h => h) hS (by rfl) ?ha3 ?ra3
          case ha3 =>
            intro w9
            go_simp
            try (with_reducible rfl)
          simp only [List.setIfInBounds_toArray, List.set_cons_zero, List.set_cons_succ]
          refine ways_skipd (i := 4) 40 (v := ?va4) rfl rfl (by kernel_rfl) (by kernel_rfl) (by kernel_rfl) (by kernel_rfl) (fun _ _ _ h => h) hS (by rfl) ?ha4 ?ra4
          case ha4 =>
            intro w9
            go_simp
            try (with_reducible rfl)
          simp only [List.setIfInBounds_toArray, List.set_cons_zero, List.set_cons_succ]
          refine ways_taked (i := 5) 41 (v := ?va5) rfl rfl (by kernel_rfl) (by kernel_rfl) (by kernel_rfl) (by kernel_rfl) (fun _ _ _ h => h) hS (by rfl) ?ha5 ?ra5
          case ha5 =>
            intro w9 s9
            have c := C0.out _ s9
            go_simp
            try (with_reducible rfl)
          simp only [List.setIfInBounds_toArray, List.set_cons_zero, List.set_cons_succ]
          refine ways_skipd (i := 6) 42 (v := ?va6) rfl rfl (by kernel_rfl) (by kernel_rfl) (by kernel_rfl) (by kernel_rfl) (fun _ _ _ h => h) hS (by rfl) ?ha6 ?ra6
          case ha6 =>
            intro w9
            go_simp
            try (with_reducible rfl)
          simp only [List.setIfInBounds_toArray, List.set_cons_zero, List.set_cons_succ]
          refine ways_skipd (i := 7) 43 (v := ?va7) rfl rfl (by kernel_rfl) (by kernel_rfl) (by kernel_rfl) (by kernel_rfl) (fun _ _ _ h => h) hS (by rfl) ?ha7 ?ra7
          case ha7 =>
            intro w9
            go_simp
            try (with_reducible rfl)
          simp only [List.setIfInBounds_toArray, List.set_cons_zero, List.set_cons_succ]
          refine ways_skipd (i := 8) 44 (v := ?va8) rfl rfl (by kernel_rfl) (by kernel_rfl) (by kernel_rfl) (by kernel_rfl) (fun _ _ _ h => h) hS (by rfl) ?ha8 ?ra8
          case ha8 =>
            intro w9
            go_simp
            try (with_reducible rfl)
          simp only [List.setIfInBounds_toArray, List.set_cons_zero, List.set_cons_succ]
          refine ways_skipd (i := 9) 45 (v := ?va9) rfl rfl (by kernel_rfl) (by kernel_rfl) (by kernel_rfl) (by kernel_rfl) (fun _ _ _ h => h) hS (by rfl) ?ha9 ?ra9
          case ha9 =>
            intro w9
            go_simp
            try (with_reducible rfl)
          simp only [List.setIfInBounds_toArray, List.set_cons_zero, List.set_cons_succ]
          refine ways_taked (i := 10) 46 (v := ?va10) rfl rfl (by kernel_rfl) (by kernel_rfl) (by kernel_rfl) (by kernel_rfl) (fun _ _ _ h => h) hS (by rfl) ?ha10 ?ra10
          case ha10 =>
            intro w9 s9
            have c := C1.out _ s9
            go_simp
            try (with_reducible rfl)
          simp only [List.setIfInBounds_toArray, List.set_cons_zero, List.set_cons_succ]
          refine ways_skipd (i := 11) 47 (v := ?va11) rfl rfl (by kernel_rfl) (by kernel_rfl) (by kernel_rfl) (by kernel_rfl) (fun _ _ _ h => h) hS (by rfl) ?ha11 ?ra11
          case ha11 =>
            intro w9
            go_simp
            try (with_reducible rfl)
          simp only [List.setIfInBounds_toArray, List.set_cons_zero, List.set_cons_succ]
          refine ways_skipd (i := 12) 48 (v := ?va12) rfl rfl (by kernel_rfl) (by kernel_rfl) (by kernel_rfl) (by kernel_rfl) (fun _ _ _ h => h) hS (by rfl) ?ha12 ?ra12
          case ha12 =>
            intro w9
            go_simp
            try (with_reducible rfl)
          simp only [List.setIfInBounds_toArray, List.set_cons_zero, List.set_cons_succ]
          refine ways_skipd (i := 13) 49 (v := ?va13) rfl rfl (by kernel_rfl) (by kernel_rfl) (by kernel_rfl) (by kernel_rfl) (fun _ _ _ h => h) hS (by rfl) ?ha13 ?ra13
          case ha13 =>
            intro w9
            go_simp
            try (with_reducible rfl)
          simp only [List.setIfInBounds_toArray, List.set_cons_zero, List.set_cons_succ]
          refine ways_skipd (i := 14) 50 (v := ?va14) rfl rfl (by kernel_rfl) (by kernel_rfl) (by kernel_rfl) (by kernel_rfl) (fun _ _ _ h => h) hS (by rfl) ?ha14 ?ra14
          case ha14 =>
            intro w9
            go_simp
            try (with_reducible rfl)
          simp only [List.setIfInBounds_toArray, List.set_cons_zero, List.set_cons_succ]
          refine ways_taked (i := 15) 51 (v := ?va15) rfl rfl (by kernel_rfl) (by kernel_rfl) (by kernel_rfl) (by kernel_rfl) (fun _ _ _ h => h) hS (by rfl) ?ha15 ?ra15
          case ha15 =>
            intro w9 s9
            have c := C1.out _ s9
            go_simp
            try (with_reducible rfl)
          simp only [List.setIfInBounds_toArray, List.set_cons_zero, List.set_cons_succ]
          refine ways_skipd (i := 16) 52 (v := ?va16) rfl rfl (by kernel_rfl) (by kernel_rfl) (by kernel_rfl) (by kernel_rfl) (fun _ _ _ h => h) hS (by rfl) ?ha16 ?ra16
          case ha16 =>
            intro w9
            go_simp
            try (with_reducible rfl)
          simp only [List.setIfInBounds_toArray, List.set_cons_zero, List.set_cons_succ]
          refine ways_skipd (i := 17) 53 (v := ?va17) rfl rfl (by kernel_rfl) (by kernel_rfl) (by kernel_rfl) (by kernel_rfl) (fun _ _ _ h => h) hS (by rfl) ?ha17 ?ra17
          case ha17 =>
            intro w9
            go_simp
            try (with_reducible rfl)
          simp only [List.setIfInBounds_toArray, List.set_cons_zero, List.set_cons_succ]
          refine ways_skipd (i := 18) 54 (v := ?va18) rfl rfl (by kernel_rfl) (by kernel_rfl) (by kernel_rfl) (by kernel_rfl) (fun _ _ _ h => h) hS (by rfl) ?ha18 ?ra18
          case ha18 =>
            intro w9
            go_simp
            try (with_reducible rfl)
          simp only [List.setIfInBounds_toArray, List.set_cons_zero, List.set_cons_succ]
          refine ways_step (i := 19) rfl (by kernel_rfl) (fun K hK => ?_)
          obtain ⟨wu, hup, hmu, hbu, hsu⟩ := UP.out wr.drew w3.heap.size (mapN L j) k x (MW.out.below (Below.refl _ _).drew)
          have hBU := Lib.hid hbu
          have hMU := Lib.hid hmu
          have hSU := Lib.hid hsu
          clear hbu hmu hsu
          have HK := Lib.hid hK
          clear hK
          go_simp
          refine HK.out _ _ ?_ (fun h => absurd rfl h)
          clear HK K
          refine ways_done (by kernel_rfl) ?_
          go_wp2_with fail
          go_roundw
          case rel => exact ⟨j + 1, by omega, by omega, by go_num, (BW.out.drew).trans hBU.out, by rw [HMAP.out]; exact hMU.out⟩
          case measure => simp [intOf]; omega
        · have h2i : ¬ (j : Int) < 20 := by omega
          go_wp2_with fail
          go_meet
          exact ⟨BW.out, by have := MW.out; rwa [show j = min ln 20 from by omega, HM.out] at this⟩
      · have h1i : ¬ (j : Int) < (ln : Int) := by omega
        go_wp2_with fail
        go_meet
        exact ⟨BW.out, by have := MW.out; rwa [show j = min ln 20 from by omega, HM.out] at this⟩
  case rest =>
    obtain ⟨hB5, hM5⟩ := hcut
    have X5 := Lib.hid (kept X3.out hB5)
    have R5 := Lib.hid (R3.out.below hB5)
    have B5 := Lib.hid (chain B3.out hB5)
    have M5 := Lib.hid hM5
    have hlen := LEN.out _ _ hM5
    have hvl := HVL.out
    clear hB5 hM5 X3 R3 B3 M4 B4 PT UP HM
    have y0 : wc.cell? ⟨w2.heap.size, 0, none⟩ = some (.bool N.leaf) := by rw [Go.Joins.cell_of_block X5.out]; rfl
    have y1 : wc.cell? ⟨w2.heap.size, 1, none⟩ = some (.slice ak N.K.length ck) := by rw [Go.Joins.cell_of_block X5.out]; rfl
    have y2 : wc.cell? ⟨w2.heap.size, 2, none⟩ = some (.slice av N.V.length cv) := by rw [Go.Joins.cell_of_block X5.out]; rfl
    have y3 : wc.cell? ⟨w2.heap.size, 3, none⟩ = some (.slice ac N.C.length cc) := by rw [Go.Joins.cell_of_block X5.out]; rfl
    rw [hvl] at y2
    go_wp2_with fail
    go_loopw [11] (fun i wr => ∃ j : Nat, j ≤ N.K.length ∧ i = .int .i64 (j : Int) ∧ Below wc.heap.size wc wr) (fun i _ => 21 - (intOf i).toNat)
    case atStart => exact ⟨0, Nat.zero_le _, rfl, Below.refl _ _⟩
    case round =>
      clear y0 y1 y2 y3 hlen hvl
      obtain ⟨j, hj, rfl, hBw⟩ := hrel
      have BW := Lib.hid hBw
      have XW := Lib.hid (kept X5.out hBw)
      have RW := Lib.hid (R5.out.below hBw)
      have MW := Lib.hid (M5.out.below hBw)
      clear hBw
      have y0 : wr.cell? ⟨w2.heap.size, 0, none⟩ = some (.bool N.leaf) := by rw [Go.Joins.cell_of_block XW.out]; rfl
      have y1 : wr.cell? ⟨w2.heap.size, 1, none⟩ = some (.slice ak N.K.length ck) := by rw [Go.Joins.cell_of_block XW.out]; rfl
      have y2 : wr.cell? ⟨w2.heap.size, 2, none⟩ = some (.slice av N.V.length cv) := by rw [Go.Joins.cell_of_block XW.out]; rfl
      have y3 : wr.cell? ⟨w2.heap.size, 3, none⟩ = some (.slice ac N.C.length cc) := by rw [Go.Joins.cell_of_block XW.out]; rfl
      by_cases hlt : j < N.K.length
      · have hji : (j : Int) < (N.K.length : Int) := by omega
        have hjv : (j : Int) < (N.V.length : Int) := by rw [HVL.out]; exact hji
        obtain ⟨ki, vi, hku, hks, hkl, hk0⟩ := LI.out j hlt
        have HKU := Lib.hid hku
        have HKS := Lib.hid hks
        have HKL := Lib.hid hkl
        have HK0 := Lib.hid hk0
        clear hku hks hkl hk0
        obtain ⟨xb, xo, rfl, -, -⟩ := HKU.out _ _ RW.out.k
        obtain ⟨zb, zo, rfl, -, -⟩ := HKS.out _ _ RW.out.v
        have CK : Hid (∀ w', Below wr.heap.size wr w' → w'.cell? ⟨xb, xo + j, none⟩ = some (.int .u64 ki)) := Lib.hid (fun w' hb => by
          obtain ⟨b, off, he, -, hc⟩ := HKU.out _ _ (RW.out.below hb).k
          cases he
          exact hc)
        have CV : Hid (∀ w', Below wr.heap.size wr w' → w'.cell? ⟨zb, zo + j, none⟩ = some (.string vi)) := Lib.hid (fun w' hb => by
          obtain ⟨b, off, he, -, hc⟩ := HKS.out _ _ (RW.out.below hb).v
          cases he
          exact hc)
        have LKI : Hid (∀ w', Below wr.heap.size wr w' → (Instr.lookup 63 (.map (some w3.heap.size)) (.int .u64 ki) false).run Try.prog w' = .ok (.string vi) w') := Lib.hid (fun w' hb => (HKL.out _ _ (MW.out.below hb)).1)
        by_cases h0 : j = 0
        · have h0i : ¬ (0 : Int) < (j : Int) := by omega
          have h0d : decide ((0 : Int) < (j : Int)) = false := by simp; omega
          have h0n : decide (0 < j) = false := by simp; omega
          clear h0
          go_wp2_with fail
          refine wp_region_held_drew (S := fun w' => Below wr.heap.size wr w') (by kernel_rfl) (Below.refl wr.heap.size wr).drew (fun hS => ?_)
          refine held_take (i := 0) 76 (v := ?vb0x1) rfl rfl (by kernel_rfl) (by kernel_rfl) (by kernel_rfl) (fun _ _ _ h => h) hS (by rfl) ?hb0x1 ?rb0x1
          case hb0x1 =>
            intro w9 s9
            clear s9
            go_simp
            try (with_reducible rfl)
          simp only [List.setIfInBounds_toArray, List.set_cons_zero, List.set_cons_succ]
          refine held_take (i := 1) 77 (v := ?vb1x2) rfl rfl (by kernel_rfl) (by kernel_rfl) (by kernel_rfl) (fun _ _ _ h => h) hS (by rfl) ?hb1x2 ?rb1x2
          case hb1x2 =>
            intro w9 s9
            clear s9
            go_simp
            try (with_reducible rfl)
          simp only [List.setIfInBounds_toArray, List.set_cons_zero, List.set_cons_succ]
          refine held_take (i := 2) 78 (v := ?vb2x3) rfl rfl (by kernel_rfl) (by kernel_rfl) (by kernel_rfl) (fun _ _ _ h => h) hS (by rfl) ?hb2x3 ?rb2x3
          case hb2x3 =>
            intro w9 s9
            clear s9
            go_simp
            try (with_reducible rfl)
          simp only [List.setIfInBounds_toArray, List.set_cons_zero, List.set_cons_succ]
          refine held_none (i := 3) 79 rfl rfl (by kernel_rfl) (by kernel_rfl) (by kernel_rfl) (fun _ _ _ h => h) hS (by rfl) ?_
          simp only [List.setIfInBounds_toArray, List.set_cons_zero, List.set_cons_succ]
          refine held_none (i := 4) 80 rfl rfl (by kernel_rfl) (by kernel_rfl) (by kernel_rfl) (fun _ _ _ h => h) hS (by rfl) ?_
          simp only [List.setIfInBounds_toArray, List.set_cons_zero, List.set_cons_succ]
          refine held_none (i := 5) 81 rfl rfl (by kernel_rfl) (by kernel_rfl) (by kernel_rfl) (fun _ _ _ h => h) hS (by rfl) ?_
          simp only [List.setIfInBounds_toArray, List.set_cons_zero, List.set_cons_succ]
          refine held_none (i := 6) 82 rfl rfl (by kernel_rfl) (by kernel_rfl) (by kernel_rfl) (fun _ _ _ h => h) hS (by rfl) ?_
          simp only [List.setIfInBounds_toArray, List.set_cons_zero, List.set_cons_succ]
          refine held_none (i := 7) 83 rfl rfl (by kernel_rfl) (by kernel_rfl) (by kernel_rfl) (fun _ _ _ h => h) hS (by rfl) ?_
          simp only [List.setIfInBounds_toArray, List.set_cons_zero, List.set_cons_succ]
          refine held_none (i := 8) 84 rfl rfl (by kernel_rfl) (by kernel_rfl) (by kernel_rfl) (fun _ _ _ h => h) hS (by rfl) ?_
          simp only [List.setIfInBounds_toArray, List.set_cons_zero, List.set_cons_succ]
          refine held_none (i := 9) 85 rfl rfl (by kernel_rfl) (by kernel_rfl) (by kernel_rfl) (fun _ _ _ h => h) hS (by rfl) ?_
          simp only [List.setIfInBounds_toArray, List.set_cons_zero, List.set_cons_succ]
          refine held_none (i := 10) 86 rfl rfl (by kernel_rfl) (by kernel_rfl) (by kernel_rfl) (fun _ _ _ h => h) hS (by rfl) ?_
          simp only [List.setIfInBounds_toArray, List.set_cons_zero, List.set_cons_succ]
          refine held_none (i := 11) 87 rfl rfl (by kernel_rfl) (by kernel_rfl) (by kernel_rfl) (fun _ _ _ h => h) hS (by rfl) ?_
          simp only [List.setIfInBounds_toArray, List.set_cons_zero, List.set_cons_succ]
          refine held_none (i := 12) 88 rfl rfl (by kernel_rfl) (by kernel_rfl) (by kernel_rfl) (fun _ _ _ h => h) hS (by rfl) ?_
          simp only [List.setIfInBounds_toArray, List.set_cons_zero, List.set_cons_succ]
          refine held_none (i := 13) 89 rfl rfl (by kernel_rfl) (by kernel_rfl) (by kernel_rfl) (fun _ _ _ h => h) hS (by rfl) ?_
          simp only [List.setIfInBounds_toArray, List.set_cons_zero, List.set_cons_succ]
          refine held_none (i := 14) 90 rfl rfl (by kernel_rfl) (by kernel_rfl) (by kernel_rfl) (fun _ _ _ h => h) hS (by rfl) ?_
          simp only [List.setIfInBounds_toArray, List.set_cons_zero, List.set_cons_succ]
          refine held_take (i := 15) 91 (v := ?vb15x16) rfl rfl (by kernel_rfl) (by kernel_rfl) (by kernel_rfl) (fun _ _ _ h => h) hS (by rfl) ?hb15x16 ?rb15x16
          case hb15x16 =>
            intro w9 s9
            clear s9
            go_simp
            try (with_reducible rfl)
          simp only [List.setIfInBounds_toArray, List.set_cons_zero, List.set_cons_succ]
          refine held_take (i := 16) 92 (v := ?vb16x17) rfl rfl (by kernel_rfl) (by kernel_rfl) (by kernel_rfl) (fun _ _ _ h => h) hS (by rfl) ?hb16x17 ?rb16x17
          case hb16x17 =>
            intro w9 s9
            clear s9
            go_simp
            try (with_reducible rfl)
          simp only [List.setIfInBounds_toArray, List.set_cons_zero, List.set_cons_succ]
          refine held_take (i := 17) 93 (v := ?vb17x18) rfl rfl (by kernel_rfl) (by kernel_rfl) (by kernel_rfl) (fun _ _ _ h => h) hS (by rfl) ?hb17x18 ?rb17x18
          case hb17x18 =>
            intro w9 s9
            clear s9
            go_simp
            try (with_reducible rfl)
          simp only [List.setIfInBounds_toArray, List.set_cons_zero, List.set_cons_succ]
          refine held_take (i := 18) 94 (v := ?vb18x19) rfl rfl (by kernel_rfl) (by kernel_rfl) (by kernel_rfl) (fun _ _ _ h => h) hS (by rfl) ?hb18x19 ?rb18x19
          case hb18x19 =>
            intro w9 s9
            clear s9
            go_simp
            try (with_reducible rfl)
          simp only [List.setIfInBounds_toArray, List.set_cons_zero, List.set_cons_succ]
          refine held_take (i := 19) 95 (v := ?vb19x20) rfl rfl (by kernel_rfl) (by kernel_rfl) (by kernel_rfl) (fun _ _ _ h => h) hS (by rfl) ?hb19x20 ?rb19x20
          case hb19x20 =>
            intro w9 s9
            have X9 := kept XW.out s9
            have c0 : w9.cell? ⟨w2.heap.size, 0, none⟩ = some (.bool N.leaf) := by rw [Go.Joins.cell_of_block X9]; rfl
            have c1 : w9.cell? ⟨w2.heap.size, 1, none⟩ = some (.slice (some ⟨xb, xo, none⟩) N.K.length ck) := by rw [Go.Joins.cell_of_block X9]; rfl
            have c2 : w9.cell? ⟨w2.heap.size, 2, none⟩ = some (.slice (some ⟨zb, zo, none⟩) N.V.length cv) := by rw [Go.Joins.cell_of_block X9]; rfl
            have c3 : w9.cell? ⟨w2.heap.size, 3, none⟩ = some (.slice ac N.C.length cc) := by rw [Go.Joins.cell_of_block X9]; rfl
            clear s9
            go_simp
            try (with_reducible rfl)
          simp only [List.setIfInBounds_toArray, List.set_cons_zero, List.set_cons_succ]
          refine held_take (i := 20) 96 (v := ?vb20x21) rfl rfl (by kernel_rfl) (by kernel_rfl) (by kernel_rfl) (fun _ _ _ h => h) hS (by rfl) ?hb20x21 ?rb20x21
          case hb20x21 =>
            intro w9 s9
            clear s9
            go_simp
            try (with_reducible rfl)
          simp only [List.setIfInBounds_toArray, List.set_cons_zero, List.set_cons_succ]
          refine held_take (i := 21) 97 (v := ?vb21x22) rfl rfl (by kernel_rfl) (by kernel_rfl) (by kernel_rfl) (fun _ _ _ h => h) hS (by rfl) ?hb21x22 ?rb21x22
          case hb21x22 =>
            intro w9 s9
            clear s9
            go_simp
            try (with_reducible rfl)
          simp only [List.setIfInBounds_toArray, List.set_cons_zero, List.set_cons_succ]
          refine held_take (i := 22) 98 (v := ?vb22x23) rfl rfl (by kernel_rfl) (by kernel_rfl) (by kernel_rfl) (fun _ _ _ h => h) hS (by rfl) ?hb22x23 ?rb22x23
          case hb22x23 =>
            intro w9 s9
            have c := CK.out _ s9
            clear s9
            go_simp
            try (with_reducible rfl)
          simp only [List.setIfInBounds_toArray, List.set_cons_zero, List.set_cons_succ]
          refine held_take (i := 23) 99 (v := ?vb23x24) rfl rfl (by kernel_rfl) (by kernel_rfl) (by kernel_rfl) (fun _ _ _ h => h) hS (by rfl) ?hb23x24 ?rb23x24
          case hb23x24 =>
            intro w9 s9
            have c := LKI.out _ s9
            clear s9
            go_simp
            try (with_reducible rfl)
          simp only [List.setIfInBounds_toArray, List.set_cons_zero, List.set_cons_succ]
          refine held_take (i := 24) 100 (v := ?vb24x25) rfl rfl (by kernel_rfl) (by kernel_rfl) (by kernel_rfl) (fun _ _ _ h => h) hS (by rfl) ?hb24x25 ?rb24x25
          case hb24x25 =>
            intro w9 s9
            clear s9
            go_simp
            try (with_reducible rfl)
          simp only [List.setIfInBounds_toArray, List.set_cons_zero, List.set_cons_succ]
          refine held_take (i := 25) 101 (v := ?vb25x26) rfl rfl (by kernel_rfl) (by kernel_rfl) (by kernel_rfl) (fun _ _ _ h => h) hS (by rfl) ?hb25x26 ?rb25x26
          case hb25x26 =>
            intro w9 s9
            have X9 := kept XW.out s9
            have c0 : w9.cell? ⟨w2.heap.size, 0, none⟩ = some (.bool N.leaf) := by rw [Go.Joins.cell_of_block X9]; rfl
            have c1 : w9.cell? ⟨w2.heap.size, 1, none⟩ = some (.slice (some ⟨xb, xo, none⟩) N.K.length ck) := by rw [Go.Joins.cell_of_block X9]; rfl
            have c2 : w9.cell? ⟨w2.heap.size, 2, none⟩ = some (.slice (some ⟨zb, zo, none⟩) N.V.length cv) := by rw [Go.Joins.cell_of_block X9]; rfl
            have c3 : w9.cell? ⟨w2.heap.size, 3, none⟩ = some (.slice ac N.C.length cc) := by rw [Go.Joins.cell_of_block X9]; rfl
            clear s9
            go_simp
            try (with_reducible rfl)
          simp only [List.setIfInBounds_toArray, List.set_cons_zero, List.set_cons_succ]
          refine held_take (i := 26) 102 (v := ?vb26x27) rfl rfl (by kernel_rfl) (by kernel_rfl) (by kernel_rfl) (fun _ _ _ h => h) hS (by rfl) ?hb26x27 ?rb26x27
          case hb26x27 =>
            intro w9 s9
            clear s9
            go_simp
            try (with_reducible rfl)
          simp only [List.setIfInBounds_toArray, List.set_cons_zero, List.set_cons_succ]
          refine held_take (i := 27) 103 (v := ?vb27x28) rfl rfl (by kernel_rfl) (by kernel_rfl) (by kernel_rfl) (fun _ _ _ h => h) hS (by rfl) ?hb27x28 ?rb27x28
          case hb27x28 =>
            intro w9 s9
            clear s9
            go_simp
            try (with_reducible rfl)
          simp only [List.setIfInBounds_toArray, List.set_cons_zero, List.set_cons_succ]
          refine held_take (i := 28) 104 (v := ?vb28x29) rfl rfl (by kernel_rfl) (by kernel_rfl) (by kernel_rfl) (fun _ _ _ h => h) hS (by rfl) ?hb28x29 ?rb28x29
          case hb28x29 =>
            intro w9 s9
            have c := CV.out _ s9
            clear s9
            go_simp
            try (with_reducible rfl)
          simp only [List.setIfInBounds_toArray, List.set_cons_zero, List.set_cons_succ]
          refine held_take (i := 29) 105 (v := ?vb29x30) rfl rfl (by kernel_rfl) (by kernel_rfl) (by kernel_rfl) (fun _ _ _ h => h) hS (by rfl) ?hb29x30 ?rb29x30
          case hb29x30 =>
            intro w9 s9
            clear s9
            go_simp
            try (with_reducible rfl)
          simp only [List.setIfInBounds_toArray, List.set_cons_zero, List.set_cons_succ]
          refine held_take (i := 30) 106 (v := ?vb30x31) rfl rfl (by kernel_rfl) (by kernel_rfl) (by kernel_rfl) (fun _ _ _ h => h) hS (by rfl) ?hb30x31 ?rb30x31
          case hb30x31 =>
            intro w9 s9
            clear s9
            go_simp
            try (with_reducible rfl)
          simp only [List.setIfInBounds_toArray, List.set_cons_zero, List.set_cons_succ]
          refine wpAnyH_done (by kernel_rfl) ?_ _
          have H15 := Lib.hid hS
          clear hS
          go_wp2_with fail
          go_roundw
          case rel => exact ⟨j + 1, by omega, by go_num, chain BW.out H15.out⟩
          case measure => simp [intOf]; omega
        · have h0i : (0 : Int) < (j : Int) := by omega
          have h0n : 0 < j := by omega
          obtain ⟨k0, hka, hkb⟩ := HK0.out (by omega)
          have HKA := Lib.hid hka
          have CJ : Hid (∀ w', Below wr.heap.size wr w' → w'.cell? ⟨xb, xo + (j - 1), none⟩ = some (.int .u64 k0)) := Lib.hid (fun w' hb => by
            obtain ⟨b, off, he, -, hc⟩ := HKA.out _ _ (RW.out.below hb).k
            cases he
            exact hc)
          have hjw : IntKind.i64.wrap ((j : Int) - 1) = ((j - 1 : Nat) : Int) := by rw [show (j : Int) - 1 = ((j - 1 : Nat) : Int) from by omega]; exact IntWalk.i64_in _ (by omega)
          have hjq : ((j - 1 : Nat) : Int) < (N.K.length : Int) := by omega
          have hj1 : j = (j - 1) + 1 := by omega
          obtain ⟨jm, hjm⟩ : ∃ jm, j - 1 = jm := ⟨_, rfl⟩
          rw [hjm] at CJ hjw hjq
          have hge : ¬ ki ≤ k0 := by omega
          have hged : decide (ki ≤ k0) = false := by simpa using hge
          clear hka h0 hkb hj1 hjm HKA
          go_wp2_with fail
          refine wp_region_held_drew (S := fun w' => Below wr.heap.size wr w') (by kernel_rfl) (Below.refl wr.heap.size wr).drew (fun hS => ?_)
          refine held_take (i := 0) 76 (v := ?vc0x1) rfl rfl (by kernel_rfl) (by kernel_rfl) (by kernel_rfl) (fun _ _ _ h => h) hS (by rfl) ?hc0x1 ?rc0x1
          case hc0x1 =>
            intro w9 s9
            clear s9
            go_simp
            try (with_reducible rfl)
          simp only [List.setIfInBounds_toArray, List.set_cons_zero, List.set_cons_succ]
          refine held_take (i := 1) 77 (v := ?vc1x2) rfl rfl (by kernel_rfl) (by kernel_rfl) (by kernel_rfl) (fun _ _ _ h => h) hS (by rfl) ?hc1x2 ?rc1x2
          case hc1x2 =>
            intro w9 s9
            clear s9
            go_simp
            try (with_reducible rfl)
          simp only [List.setIfInBounds_toArray, List.set_cons_zero, List.set_cons_succ]
          refine held_take (i := 2) 78 (v := ?vc2x3) rfl rfl (by kernel_rfl) (by kernel_rfl) (by kernel_rfl) (fun _ _ _ h => h) hS (by rfl) ?hc2x3 ?rc2x3
          case hc2x3 =>
            intro w9 s9
            clear s9
            go_simp
            try (with_reducible rfl)
          simp only [List.setIfInBounds_toArray, List.set_cons_zero, List.set_cons_succ]
          refine held_take (i := 3) 79 (v := ?vc3x4) rfl rfl (by kernel_rfl) (by kernel_rfl) (by kernel_rfl) (fun _ _ _ h => h) hS (by rfl) ?hc3x4 ?rc3x4
          case hc3x4 =>
            intro w9 s9
            clear s9
            go_simp
            try (with_reducible rfl)
          simp only [List.setIfInBounds_toArray, List.set_cons_zero, List.set_cons_succ]
          refine held_take (i := 4) 80 (v := ?vc4x5) rfl rfl (by kernel_rfl) (by kernel_rfl) (by kernel_rfl) (fun _ _ _ h => h) hS (by rfl) ?hc4x5 ?rc4x5
          case hc4x5 =>
            intro w9 s9
            have X9 := kept XW.out s9
            have c0 : w9.cell? ⟨w2.heap.size, 0, none⟩ = some (.bool N.leaf) := by rw [Go.Joins.cell_of_block X9]; rfl
            have c1 : w9.cell? ⟨w2.heap.size, 1, none⟩ = some (.slice (some ⟨xb, xo, none⟩) N.K.length ck) := by rw [Go.Joins.cell_of_block X9]; rfl
            have c2 : w9.cell? ⟨w2.heap.size, 2, none⟩ = some (.slice (some ⟨zb, zo, none⟩) N.V.length cv) := by rw [Go.Joins.cell_of_block X9]; rfl
            have c3 : w9.cell? ⟨w2.heap.size, 3, none⟩ = some (.slice ac N.C.length cc) := by rw [Go.Joins.cell_of_block X9]; rfl
            clear s9
            go_simp
            try (with_reducible rfl)
          simp only [List.setIfInBounds_toArray, List.set_cons_zero, List.set_cons_succ]
          refine held_take (i := 5) 81 (v := ?vc5x6) rfl rfl (by kernel_rfl) (by kernel_rfl) (by kernel_rfl) (fun _ _ _ h => h) hS (by rfl) ?hc5x6 ?rc5x6
          case hc5x6 =>
            intro w9 s9
            clear s9
            go_simp
            try (with_reducible rfl)
          simp only [List.setIfInBounds_toArray, List.set_cons_zero, List.set_cons_succ]
          refine held_take (i := 6) 82 (v := ?vc6x7) rfl rfl (by kernel_rfl) (by kernel_rfl) (by kernel_rfl) (fun _ _ _ h => h) hS (by rfl) ?hc6x7 ?rc6x7
          case hc6x7 =>
            intro w9 s9
            clear s9
            go_simp
            try (with_reducible rfl)
          simp only [List.setIfInBounds_toArray, List.set_cons_zero, List.set_cons_succ]
          refine held_take (i := 7) 83 (v := ?vc7x8) rfl rfl (by kernel_rfl) (by kernel_rfl) (by kernel_rfl) (fun _ _ _ h => h) hS (by rfl) ?hc7x8 ?rc7x8
          case hc7x8 =>
            intro w9 s9
            clear s9
            go_simp
            try (with_reducible rfl)
          simp only [List.setIfInBounds_toArray, List.set_cons_zero, List.set_cons_succ]
          refine held_take (i := 8) 84 (v := ?vc8x9) rfl rfl (by kernel_rfl) (by kernel_rfl) (by kernel_rfl) (fun _ _ _ h => h) hS (by rfl) ?hc8x9 ?rc8x9
          case hc8x9 =>
            intro w9 s9
            have c := CJ.out _ s9
            clear s9
            go_simp
            try (with_reducible rfl)
          simp only [List.setIfInBounds_toArray, List.set_cons_zero, List.set_cons_succ]
          refine held_take (i := 9) 85 (v := ?vc9x10) rfl rfl (by kernel_rfl) (by kernel_rfl) (by kernel_rfl) (fun _ _ _ h => h) hS (by rfl) ?hc9x10 ?rc9x10
          case hc9x10 =>
            intro w9 s9
            clear s9
            go_simp
            try (with_reducible rfl)
          simp only [List.setIfInBounds_toArray, List.set_cons_zero, List.set_cons_succ]
          refine held_take (i := 10) 86 (v := ?vc10x11) rfl rfl (by kernel_rfl) (by kernel_rfl) (by kernel_rfl) (fun _ _ _ h => h) hS (by rfl) ?hc10x11 ?rc10x11
          case hc10x11 =>
            intro w9 s9
            have X9 := kept XW.out s9
            have c0 : w9.cell? ⟨w2.heap.size, 0, none⟩ = some (.bool N.leaf) := by rw [Go.Joins.cell_of_block X9]; rfl
            have c1 : w9.cell? ⟨w2.heap.size, 1, none⟩ = some (.slice (some ⟨xb, xo, none⟩) N.K.length ck) := by rw [Go.Joins.cell_of_block X9]; rfl
            have c2 : w9.cell? ⟨w2.heap.size, 2, none⟩ = some (.slice (some ⟨zb, zo, none⟩) N.V.length cv) := by rw [Go.Joins.cell_of_block X9]; rfl
            have c3 : w9.cell? ⟨w2.heap.size, 3, none⟩ = some (.slice ac N.C.length cc) := by rw [Go.Joins.cell_of_block X9]; rfl
            clear s9
            go_simp
            try (with_reducible rfl)
          simp only [List.setIfInBounds_toArray, List.set_cons_zero, List.set_cons_succ]
          refine held_take (i := 11) 87 (v := ?vc11x12) rfl rfl (by kernel_rfl) (by kernel_rfl) (by kernel_rfl) (fun _ _ _ h => h) hS (by rfl) ?hc11x12 ?rc11x12
          case hc11x12 =>
            intro w9 s9
            clear s9
            go_simp
            try (with_reducible rfl)
          simp only [List.setIfInBounds_toArray, List.set_cons_zero, List.set_cons_succ]
          refine held_take (i := 12) 88 (v := ?vc12x13) rfl rfl (by kernel_rfl) (by kernel_rfl) (by kernel_rfl) (fun _ _ _ h => h) hS (by rfl) ?hc12x13 ?rc12x13
          case hc12x13 =>
            intro w9 s9
            clear s9
            go_simp
            try (with_reducible rfl)
          simp only [List.setIfInBounds_toArray, List.set_cons_zero, List.set_cons_succ]
          refine held_take (i := 13) 89 (v := ?vc13x14) rfl rfl (by kernel_rfl) (by kernel_rfl) (by kernel_rfl) (fun _ _ _ h => h) hS (by rfl) ?hc13x14 ?rc13x14
          case hc13x14 =>
            intro w9 s9
            have c := CK.out _ s9
            clear s9
            go_simp
            try (with_reducible rfl)
          simp only [List.setIfInBounds_toArray, List.set_cons_zero, List.set_cons_succ]
          refine held_take (i := 14) 90 (v := ?vc14x15) rfl rfl (by kernel_rfl) (by kernel_rfl) (by kernel_rfl) (fun _ _ _ h => h) hS (by rfl) ?hc14x15 ?rc14x15
          case hc14x15 =>
            intro w9 s9
            clear s9
            go_simp
            try (with_reducible rfl)
          simp only [List.setIfInBounds_toArray, List.set_cons_zero, List.set_cons_succ]
          refine held_take (i := 15) 91 (v := ?vc15x16) rfl rfl (by kernel_rfl) (by kernel_rfl) (by kernel_rfl) (fun _ _ _ h => h) hS (by rfl) ?hc15x16 ?rc15x16
          case hc15x16 =>
            intro w9 s9
            clear s9
            go_simp
            try (with_reducible rfl)
          simp only [List.setIfInBounds_toArray, List.set_cons_zero, List.set_cons_succ]
          refine held_take (i := 16) 92 (v := ?vc16x17) rfl rfl (by kernel_rfl) (by kernel_rfl) (by kernel_rfl) (fun _ _ _ h => h) hS (by rfl) ?hc16x17 ?rc16x17
          case hc16x17 =>
            intro w9 s9
            clear s9
            go_simp
            try (with_reducible rfl)
          simp only [List.setIfInBounds_toArray, List.set_cons_zero, List.set_cons_succ]
          refine held_take (i := 17) 93 (v := ?vc17x18) rfl rfl (by kernel_rfl) (by kernel_rfl) (by kernel_rfl) (fun _ _ _ h => h) hS (by rfl) ?hc17x18 ?rc17x18
          case hc17x18 =>
            intro w9 s9
            clear s9
            go_simp
            try (with_reducible rfl)
          simp only [List.setIfInBounds_toArray, List.set_cons_zero, List.set_cons_succ]
          refine held_take (i := 18) 94 (v := ?vc18x19) rfl rfl (by kernel_rfl) (by kernel_rfl) (by kernel_rfl) (fun _ _ _ h => h) hS (by rfl) ?hc18x19 ?rc18x19
          case hc18x19 =>
            intro w9 s9
            clear s9
            go_simp
            try (with_reducible rfl)
          simp only [List.setIfInBounds_toArray, List.set_cons_zero, List.set_cons_succ]
          refine held_take (i := 19) 95 (v := ?vc19x20) rfl rfl (by kernel_rfl) (by kernel_rfl) (by kernel_rfl) (fun _ _ _ h => h) hS (by rfl) ?hc19x20 ?rc19x20
          case hc19x20 =>
            intro w9 s9
            have X9 := kept XW.out s9
            have c0 : w9.cell? ⟨w2.heap.size, 0, none⟩ = some (.bool N.leaf) := by rw [Go.Joins.cell_of_block X9]; rfl
            have c1 : w9.cell? ⟨w2.heap.size, 1, none⟩ = some (.slice (some ⟨xb, xo, none⟩) N.K.length ck) := by rw [Go.Joins.cell_of_block X9]; rfl
            have c2 : w9.cell? ⟨w2.heap.size, 2, none⟩ = some (.slice (some ⟨zb, zo, none⟩) N.V.length cv) := by rw [Go.Joins.cell_of_block X9]; rfl
            have c3 : w9.cell? ⟨w2.heap.size, 3, none⟩ = some (.slice ac N.C.length cc) := by rw [Go.Joins.cell_of_block X9]; rfl
            clear s9
            go_simp
            try (with_reducible rfl)
          simp only [List.setIfInBounds_toArray, List.set_cons_zero, List.set_cons_succ]
          refine held_take (i := 20) 96 (v := ?vc20x21) rfl rfl (by kernel_rfl) (by kernel_rfl) (by kernel_rfl) (fun _ _ _ h => h) hS (by rfl) ?hc20x21 ?rc20x21
          case hc20x21 =>
            intro w9 s9
            clear s9
            go_simp
            try (with_reducible rfl)
          simp only [List.setIfInBounds_toArray, List.set_cons_zero, List.set_cons_succ]
          refine held_take (i := 21) 97 (v := ?vc21x22) rfl rfl (by kernel_rfl) (by kernel_rfl) (by kernel_rfl) (fun _ _ _ h => h) hS (by rfl) ?hc21x22 ?rc21x22
          case hc21x22 =>
            intro w9 s9
            clear s9
            go_simp
            try (with_reducible rfl)
          simp only [List.setIfInBounds_toArray, List.set_cons_zero, List.set_cons_succ]
          refine held_take (i := 22) 98 (v := ?vc22x23) rfl rfl (by kernel_rfl) (by kernel_rfl) (by kernel_rfl) (fun _ _ _ h => h) hS (by rfl) ?hc22x23 ?rc22x23
          case hc22x23 =>
            intro w9 s9
            have c := CK.out _ s9
            clear s9
            go_simp
            try (with_reducible rfl)
          simp only [List.setIfInBounds_toArray, List.set_cons_zero, List.set_cons_succ]
          refine held_take (i := 23) 99 (v := ?vc23x24) rfl rfl (by kernel_rfl) (by kernel_rfl) (by kernel_rfl) (fun _ _ _ h => h) hS (by rfl) ?hc23x24 ?rc23x24
          case hc23x24 =>
            intro w9 s9
            have c := LKI.out _ s9
            clear s9
            go_simp
            try (with_reducible rfl)
          simp only [List.setIfInBounds_toArray, List.set_cons_zero, List.set_cons_succ]
          refine held_take (i := 24) 100 (v := ?vc24x25) rfl rfl (by kernel_rfl) (by kernel_rfl) (by kernel_rfl) (fun _ _ _ h => h) hS (by rfl) ?hc24x25 ?rc24x25
          case hc24x25 =>
            intro w9 s9
            clear s9
            go_simp
            try (with_reducible rfl)
          simp only [List.setIfInBounds_toArray, List.set_cons_zero, List.set_cons_succ]
          refine held_take (i := 25) 101 (v := ?vc25x26) rfl rfl (by kernel_rfl) (by kernel_rfl) (by kernel_rfl) (fun _ _ _ h => h) hS (by rfl) ?hc25x26 ?rc25x26
          case hc25x26 =>
            intro w9 s9
            have X9 := kept XW.out s9
            have c0 : w9.cell? ⟨w2.heap.size, 0, none⟩ = some (.bool N.leaf) := by rw [Go.Joins.cell_of_block X9]; rfl
            have c1 : w9.cell? ⟨w2.heap.size, 1, none⟩ = some (.slice (some ⟨xb, xo, none⟩) N.K.length ck) := by rw [Go.Joins.cell_of_block X9]; rfl
            have c2 : w9.cell? ⟨w2.heap.size, 2, none⟩ = some (.slice (some ⟨zb, zo, none⟩) N.V.length cv) := by rw [Go.Joins.cell_of_block X9]; rfl
            have c3 : w9.cell? ⟨w2.heap.size, 3, none⟩ = some (.slice ac N.C.length cc) := by rw [Go.Joins.cell_of_block X9]; rfl
            clear s9
            go_simp
            try (with_reducible rfl)
          simp only [List.setIfInBounds_toArray, List.set_cons_zero, List.set_cons_succ]
          refine held_take (i := 26) 102 (v := ?vc26x27) rfl rfl (by kernel_rfl) (by kernel_rfl) (by kernel_rfl) (fun _ _ _ h => h) hS (by rfl) ?hc26x27 ?rc26x27
          case hc26x27 =>
            intro w9 s9
            clear s9
            go_simp
            try (with_reducible rfl)
          simp only [List.setIfInBounds_toArray, List.set_cons_zero, List.set_cons_succ]
          refine held_take (i := 27) 103 (v := ?vc27x28) rfl rfl (by kernel_rfl) (by kernel_rfl) (by kernel_rfl) (fun _ _ _ h => h) hS (by rfl) ?hc27x28 ?rc27x28
          case hc27x28 =>
            intro w9 s9
            clear s9
            go_simp
            try (with_reducible rfl)
          simp only [List.setIfInBounds_toArray, List.set_cons_zero, List.set_cons_succ]
          refine held_take (i := 28) 104 (v := ?vc28x29) rfl rfl (by kernel_rfl) (by kernel_rfl) (by kernel_rfl) (fun _ _ _ h => h) hS (by rfl) ?hc28x29 ?rc28x29
          case hc28x29 =>
            intro w9 s9
            have c := CV.out _ s9
            clear s9
            go_simp
            try (with_reducible rfl)
          simp only [List.setIfInBounds_toArray, List.set_cons_zero, List.set_cons_succ]
          refine held_take (i := 29) 105 (v := ?vc29x30) rfl rfl (by kernel_rfl) (by kernel_rfl) (by kernel_rfl) (fun _ _ _ h => h) hS (by rfl) ?hc29x30 ?rc29x30
          case hc29x30 =>
            intro w9 s9
            clear s9
            go_simp
            try (with_reducible rfl)
          simp only [List.setIfInBounds_toArray, List.set_cons_zero, List.set_cons_succ]
          refine held_take (i := 30) 106 (v := ?vc30x31) rfl rfl (by kernel_rfl) (by kernel_rfl) (by kernel_rfl) (fun _ _ _ h => h) hS (by rfl) ?hc30x31 ?rc30x31
          case hc30x31 =>
            intro w9 s9
            clear s9
            go_simp
            try (with_reducible rfl)
          simp only [List.setIfInBounds_toArray, List.set_cons_zero, List.set_cons_succ]
          refine wpAnyH_done (by kernel_rfl) ?_ _
          have H15 := Lib.hid hS
          clear hS
          go_wp2_with fail
          go_roundw
          case rel => exact ⟨j + 1, by omega, by go_num, chain BW.out H15.out⟩
          case measure => simp [intOf]; omega
      · obtain rfl : j = N.K.length := by omega
        have hji : ¬ (N.K.length : Int) < (N.K.length : Int) := by omega
        clear LI
        go_wp2_with fail
        refine (FN.out _ _ _ _ _ _ _ RW.out).mono ?_
        rintro e w6 ⟨rfl, b6⟩
        have X6 := Lib.hid (kept XW.out b6)
        have R6 := Lib.hid (RW.out.below b6)
        have M6 := Lib.hid (MW.out.below b6)
        have B6 := Lib.hid (chain (chain B5.out BW.out) b6)
        clear b6 XW RW MW BW X5 R5 M5 B5 FN y0 y1 y2 y3
        have hlk := (LK.out _ _ M6.out).2
        go_upto_region 19 with fail
        clear hlk LK
        go_cut [144] (fun v wx => v = .bool false ∧ w6 = wx)
        case first =>
          have hp1 : ¬ (p : Int) < 0 := by omega
          have hp2 : ¬ (N.K.length : Int) < (p : Int) := by have := HPL.out; omega
          have y0 : w6.cell? ⟨w2.heap.size, 0, none⟩ = some (.bool N.leaf) := by rw [Go.Joins.cell_of_block X6.out]; rfl
          have y1 : w6.cell? ⟨w2.heap.size, 1, none⟩ = some (.slice ak N.K.length ck) := by rw [Go.Joins.cell_of_block X6.out]; rfl
          have y2 : w6.cell? ⟨w2.heap.size, 2, none⟩ = some (.slice av N.V.length cv) := by rw [Go.Joins.cell_of_block X6.out]; rfl
          have y3 : w6.cell? ⟨w2.heap.size, 3, none⟩ = some (.slice ac N.C.length cc) := by rw [Go.Joins.cell_of_block X6.out]; rfl
          cases ok
          · go_wp2_with fail
            go_meet
            exact ⟨rfl, rfl⟩
          · have hp3 : (p : Int) < (N.K.length : Int) := by have := HPT.out rfl; omega
            obtain ⟨xb, xo, rfl, -, hxc⟩ := (KEY.out rfl) _ _ R6.out.k
            go_wp2_with fail
            go_meet
            exact ⟨rfl, rfl⟩
        case rest =>
          obtain ⟨rfl, rfl⟩ := hcut
          clear KEY HPL HPT
          have y0 : w6.cell? ⟨w2.heap.size, 0, none⟩ = some (.bool N.leaf) := by rw [Go.Joins.cell_of_block X6.out]; rfl
          have y1 : w6.cell? ⟨w2.heap.size, 1, none⟩ = some (.slice ak N.K.length ck) := by rw [Go.Joins.cell_of_block X6.out]; rfl
          have y2 : w6.cell? ⟨w2.heap.size, 2, none⟩ = some (.slice av N.V.length cv) := by rw [Go.Joins.cell_of_block X6.out]; rfl
          have y3 : w6.cell? ⟨w2.heap.size, 3, none⟩ = some (.slice ac N.C.length cc) := by rw [Go.Joins.cell_of_block X6.out]; rfl
          by_cases hz : N.K.length = 0
          · have hzi : (N.K.length : Int) = 0 := by omega
            have hzb : ((N.K.length : Int) == 0) = true := by simpa using hz
            go_wp2_with fail
            go_ret
            exact ⟨rfl, B6.out⟩
          · have hzb : ((N.K.length : Int) == 0) = false := by simpa using hz
            have hzd : decide ((N.K.length : Int) = 0) = false := by simpa using hz
            have hzp : (0 : Int) < (N.K.length : Int) := by omega
            clear hz
            go_upto_if 151 with fail
            go_cut [2] (fun v wx => (∃ q : Nat, v = .int .i64 (q : Int)) ∧ w6 = wx)
            case first =>
              have hout := HOUT.out
              by_cases hneg : out < 0
              · have e1 : IntKind.i64.wrap (out + 1) = out + 1 := IntWalk.i64_in _ (by omega)
                obtain ⟨q, hq⟩ : ∃ q : Nat, -(out + 1) = (q : Int) := ⟨(-(out + 1)).toNat, by omega⟩
                have e2 : IntKind.i64.wrap (-(out + 1)) = (q : Int) := by rw [hq]; exact IntWalk.i64_in _ (by omega)
                clear hq
                clear hout
                go_wp2_with fail
                go_meet
                exact ⟨⟨_, rfl⟩, rfl⟩
              · have hoe : out = ((out.toNat : Nat) : Int) := by omega
                generalize out.toNat = q at hoe
                subst hoe
                clear hout
                have hneg' : ¬ (q : Int) < 0 := by omega
                go_wp2_with fail
                go_meet
                exact ⟨⟨_, rfl⟩, rfl⟩
            case rest =>
              obtain ⟨⟨q, rfl⟩, rfl⟩ := hcut
              have htm : (q : Int).tmod (N.K.length : Int) = ((q % N.K.length : Nat) : Int) := by rw [Int.tmod_eq_emod_of_nonneg (by omega)]; omega
              have hem : (q : Int) % (N.K.length : Int) = ((q % N.K.length : Nat) : Int) := by omega
              obtain ⟨o, ho⟩ : ∃ o, q % N.K.length = o := ⟨_, rfl⟩
              have hol : o < N.K.length := by rw [← ho]; exact Nat.mod_lt _ (by omega)
              rw [ho] at htm hem
              have how : IntKind.i64.wrap (o : Int) = (o : Int) := IntWalk.i64_in _ (by omega)
              have hoi : (o : Int) < (N.K.length : Int) := by omega
              have hov : (o : Int) < (N.V.length : Int) := by rw [HVL.out]; exact hoi
              obtain ⟨O, ko, vo, hO, hku, hks, wt, fm, pt⟩ := OUT.out o hol
              have WT := Lib.hid wt
              have FM := Lib.hid fm
              have PT := Lib.hid pt
              have HKU := Lib.hid hku
              have HKS := Lib.hid hks
              have hOw : IntKind.i64.wrap ((N.K.length : Int) - 1) = (O.K.length : Int) := by rw [show (O.K.length : Int) = (N.K.length : Int) - 1 from by omega]; exact IntWalk.i64_in _ (by omega)
              clear OUT wt fm pt hku hks hO ho hol
              obtain ⟨xb, xo, rfl, -, -⟩ := HKU.out _ _ R6.out.k
              obtain ⟨zb, zo, rfl, -, -⟩ := HKS.out _ _ R6.out.v
              have CK : Hid (∀ w', Below w6.heap.size w6 w' → w'.cell? ⟨xb, xo + o, none⟩ = some (.int .u64 ko)) := Lib.hid (fun w' hb => by
                obtain ⟨b, off, he, -, hc⟩ := HKU.out _ _ (R6.out.below hb).k
                cases he
                exact hc)
              have CV : Hid (∀ w', Below w6.heap.size w6 w' → w'.cell? ⟨zb, zo + o, none⟩ = some (.string vo)) := Lib.hid (fun w' hb => by
                obtain ⟨b, off, he, -, hc⟩ := HKS.out _ _ (R6.out.below hb).v
                cases he
                exact hc)
              clear HKU HKS
              go_wp2_with fail
              refine (WT.out _ _ _ _ _ _ _ R6.out).mono ?_
              rintro e w7 ⟨⟨bk, bv, bc, dk, dv, dc, rfl, hO7, -, -, -⟩, b7⟩
              have B7 := Lib.hid b7
              have O7 := Lib.hid hO7
              clear b7 hO7 WT
              simp only [nodV]
              go_upto_region 27 with fail
              obtain ⟨w8, hw8⟩ : ∃ w8, w7.alloc (.cells #[.bool O.leaf, .slice bk O.K.length dk, .slice bv O.V.length dv, .slice bc O.C.length dc] 26) = w8 := ⟨_, rfl⟩
              rw [hw8]
              have b8 : Below w7.heap.size w7 w8 := by rw [← hw8]; exact below_made _ _
              have Y8 : Hid (w8.heap[w7.heap.size]? = some (.cells #[.bool O.leaf, .slice bk O.K.length dk, .slice bv O.V.length dv, .slice bc O.C.length dc] 26)) := Lib.hid (by rw [← hw8]; exact heap_alloc_new _ _)
              have D8 := Lib.hid (chain B7.out b8)
              have X8 := Lib.hid (kept X6.out D8.out)
              have R8 := Lib.hid (R6.out.below D8.out)
              have O8 := Lib.hid (O7.out.below b8)
              have CK8 : Hid (∀ w', Below w8.heap.size w8 w' → w'.cell? ⟨xb, xo + o, none⟩ = some (.int .u64 ko)) := Lib.hid (fun w' hb => CK.out w' (chain D8.out hb))
              have CV8 : Hid (∀ w', Below w8.heap.size w8 w' → w'.cell? ⟨zb, zo + o, none⟩ = some (.string vo)) := Lib.hid (fun w' hb => CV.out w' (chain D8.out hb))
              have B8 := Lib.hid (chain B6.out D8.out)
              clear hw8 b8 B7 O7 D8 X6 R6 CK CV y0 y1 y2 y3 B6 M6
              refine wp_region_held_drew (S := fun w' => Below w8.heap.size w8 w') (by kernel_rfl) (Below.refl w8.heap.size w8).drew (fun hS => ?_)
              refine held_take (i := 0) 164 (v := ?vd0x1) rfl rfl (by kernel_rfl) (by kernel_rfl) (by kernel_rfl) (fun _ _ _ h => h) hS (by rfl) ?hd0x1 ?rd0x1
              case hd0x1 =>
                intro w9 s9
                have X9 := kept Y8.out s9
                have c0 : w9.cell? ⟨w7.heap.size, 0, none⟩ = some (.bool O.leaf) := by rw [Go.Joins.cell_of_block X9]; rfl
                have c1 : w9.cell? ⟨w7.heap.size, 1, none⟩ = some (.slice bk O.K.length dk) := by rw [Go.Joins.cell_of_block X9]; rfl
                have c2 : w9.cell? ⟨w7.heap.size, 2, none⟩ = some (.slice bv O.V.length dv) := by rw [Go.Joins.cell_of_block X9]; rfl
                have c3 : w9.cell? ⟨w7.heap.size, 3, none⟩ = some (.slice bc O.C.length dc) := by rw [Go.Joins.cell_of_block X9]; rfl
                clear s9
                go_simp
                try (with_reducible rfl)
              simp only [List.setIfInBounds_toArray, List.set_cons_zero, List.set_cons_succ]
              refine held_take (i := 1) 165 (v := ?vd1x2) rfl rfl (by kernel_rfl) (by kernel_rfl) (by kernel_rfl) (fun _ _ _ h => h) hS (by rfl) ?hd1x2 ?rd1x2
              case hd1x2 =>
                intro w9 s9
                clear s9
                go_simp
                try (with_reducible rfl)
              simp only [List.setIfInBounds_toArray, List.set_cons_zero, List.set_cons_succ]
              refine held_take (i := 2) 166 (v := ?vd2x3) rfl rfl (by kernel_rfl) (by kernel_rfl) (by kernel_rfl) (fun _ _ _ h => h) hS (by rfl) ?hd2x3 ?rd2x3
              case hd2x3 =>
                intro w9 s9
                have X9 := kept X8.out s9
                have c0 : w9.cell? ⟨w2.heap.size, 0, none⟩ = some (.bool N.leaf) := by rw [Go.Joins.cell_of_block X9]; rfl
                have c1 : w9.cell? ⟨w2.heap.size, 1, none⟩ = some (.slice (some ⟨xb, xo, none⟩) N.K.length ck) := by rw [Go.Joins.cell_of_block X9]; rfl
                have c2 : w9.cell? ⟨w2.heap.size, 2, none⟩ = some (.slice (some ⟨zb, zo, none⟩) N.V.length cv) := by rw [Go.Joins.cell_of_block X9]; rfl
                have c3 : w9.cell? ⟨w2.heap.size, 3, none⟩ = some (.slice ac N.C.length cc) := by rw [Go.Joins.cell_of_block X9]; rfl
                clear s9
                go_simp
                try (with_reducible rfl)
              simp only [List.setIfInBounds_toArray, List.set_cons_zero, List.set_cons_succ]
              refine held_take (i := 3) 167 (v := ?vd3x4) rfl rfl (by kernel_rfl) (by kernel_rfl) (by kernel_rfl) (fun _ _ _ h => h) hS (by rfl) ?hd3x4 ?rd3x4
              case hd3x4 =>
                intro w9 s9
                clear s9
                go_simp
                try (with_reducible rfl)
              simp only [List.setIfInBounds_toArray, List.set_cons_zero, List.set_cons_succ]
              refine held_take (i := 4) 168 (v := ?vd4x5) rfl rfl (by kernel_rfl) (by kernel_rfl) (by kernel_rfl) (fun _ _ _ h => h) hS (by rfl) ?hd4x5 ?rd4x5
              case hd4x5 =>
                intro w9 s9
                clear s9
                go_simp
                try (with_reducible rfl)
              simp only [List.setIfInBounds_toArray, List.set_cons_zero, List.set_cons_succ]
              refine held_take (i := 5) 169 (v := ?vd5x6) rfl rfl (by kernel_rfl) (by kernel_rfl) (by kernel_rfl) (fun _ _ _ h => h) hS (by rfl) ?hd5x6 ?rd5x6
              case hd5x6 =>
                intro w9 s9
                have c := CK8.out _ s9
                clear s9
                go_simp
                try (with_reducible rfl)
              simp only [List.setIfInBounds_toArray, List.set_cons_zero, List.set_cons_succ]
              refine held_step (i := 6) rfl (by kernel_rfl) (fun K hK => ?_)
              have HK := Lib.hid hK
              clear hK
              go_simp
              go_wp2_with fail
              refine (FM.out _ _ _ _ _ _ _ (O8.out.below hS)).mono ?_
              rintro e v9 ⟨rfl, b9⟩
              refine HK.out _ _ ?_ ?_
              · exact chain hS b9
              clear HK K
              try simp only [Act.put, List.setIfInBounds_toArray, List.set_cons_zero, List.set_cons_succ]
              have hS9 := chain hS b9
              clear hS
              have hS := hS9
              clear hS9
              clear b9
              refine held_take (i := 7) 163 (v := ?vd7x7) rfl rfl (by kernel_rfl) (by kernel_rfl) (by kernel_rfl) (fun _ _ _ h => h) hS (by rfl) ?hd7x7 ?rd7x7
              case hd7x7 =>
                intro w9 s9
                clear s9
                go_simp
                try (with_reducible rfl)
              simp only [List.setIfInBounds_toArray, List.set_cons_zero, List.set_cons_succ]
              refine held_take (i := 8) 171 (v := ?vd8x8) rfl rfl (by kernel_rfl) (by kernel_rfl) (by kernel_rfl) (fun _ _ _ h => h) hS (by rfl) ?hd8x8 ?rd8x8
              case hd8x8 =>
                intro w9 s9
                clear s9
                go_simp
                try (with_reducible rfl)
              simp only [List.setIfInBounds_toArray, List.set_cons_zero, List.set_cons_succ]
              refine held_take (i := 9) 172 (v := ?vd9x9) rfl rfl (by kernel_rfl) (by kernel_rfl) (by kernel_rfl) (fun _ _ _ h => h) hS (by rfl) ?hd9x9 ?rd9x9
              case hd9x9 =>
                intro w9 s9
                clear s9
                go_simp
                try (with_reducible rfl)
              simp only [List.setIfInBounds_toArray, List.set_cons_zero, List.set_cons_succ]
              refine held_take (i := 10) 17 (v := ?vd10x10) rfl rfl (by kernel_rfl) (by kernel_rfl) (by kernel_rfl) (fun _ _ _ h => h) hS (by rfl) ?hd10x10 ?rd10x10
              case hd10x10 =>
                intro w9 s9
                clear s9
                go_simp
                try (with_reducible rfl)
              simp only [List.setIfInBounds_toArray, List.set_cons_zero, List.set_cons_succ]
              refine held_take (i := 11) 18 (v := ?vd11x11) rfl rfl (by kernel_rfl) (by kernel_rfl) (by kernel_rfl) (fun _ _ _ h => h) hS (by rfl) ?hd11x11 ?rd11x11
              case hd11x11 =>
                intro w9 s9
                clear s9
                go_simp
                try (with_reducible rfl)
              simp only [List.setIfInBounds_toArray, List.set_cons_zero, List.set_cons_succ]
              refine wpAnyH_done (by kernel_rfl) ?_ _
              have H27 := Lib.hid hS
              clear hS
              have Y9 := Lib.hid (kept Y8.out H27.out)
              have X9 := Lib.hid (kept X8.out H27.out)
              have R9 := Lib.hid (R8.out.below H27.out)
              have O9 := Lib.hid (O8.out.below H27.out)
              have CK9 : Hid (∀ w', Below v9.heap.size v9 w' → w'.cell? ⟨xb, xo + o, none⟩ = some (.int .u64 ko)) := Lib.hid (fun w' hb => CK8.out w' (chain H27.out hb))
              have CV9 : Hid (∀ w', Below v9.heap.size v9 w' → w'.cell? ⟨zb, zo + o, none⟩ = some (.string vo)) := Lib.hid (fun w' hb => CV8.out w' (chain H27.out hb))
              have B9 := Lib.hid (chain B8.out H27.out)
              clear H27 Y8 X8 R8 O8 CK8 CV8 B8 FM
              go_wp2_with fail
              refine wp_region_held_drew (S := fun w' => Below v9.heap.size v9 w') (by kernel_rfl) (Below.refl v9.heap.size v9).drew (fun hS => ?_)
              refine held_take (i := 0) 173 (v := ?ve0x1) rfl rfl (by kernel_rfl) (by kernel_rfl) (by kernel_rfl) (fun _ _ _ h => h) hS (by rfl) ?he0x1 ?re0x1
              case he0x1 =>
                intro w9 s9
                have X9' := kept Y9.out s9
                have c0 : w9.cell? ⟨w7.heap.size, 0, none⟩ = some (.bool O.leaf) := by rw [Go.Joins.cell_of_block X9']; rfl
                have c1 : w9.cell? ⟨w7.heap.size, 1, none⟩ = some (.slice bk O.K.length dk) := by rw [Go.Joins.cell_of_block X9']; rfl
                have c2 : w9.cell? ⟨w7.heap.size, 2, none⟩ = some (.slice bv O.V.length dv) := by rw [Go.Joins.cell_of_block X9']; rfl
                have c3 : w9.cell? ⟨w7.heap.size, 3, none⟩ = some (.slice bc O.C.length dc) := by rw [Go.Joins.cell_of_block X9']; rfl
                clear s9
                go_simp
                try (with_reducible rfl)
              simp only [List.setIfInBounds_toArray, List.set_cons_zero, List.set_cons_succ]
              refine held_take (i := 1) 174 (v := ?ve1x2) rfl rfl (by kernel_rfl) (by kernel_rfl) (by kernel_rfl) (fun _ _ _ h => h) hS (by rfl) ?he1x2 ?re1x2
              case he1x2 =>
                intro w9 s9
                clear s9
                go_simp
                try (with_reducible rfl)
              simp only [List.setIfInBounds_toArray, List.set_cons_zero, List.set_cons_succ]
              refine held_take (i := 2) 175 (v := ?ve2x3) rfl rfl (by kernel_rfl) (by kernel_rfl) (by kernel_rfl) (fun _ _ _ h => h) hS (by rfl) ?he2x3 ?re2x3
              case he2x3 =>
                intro w9 s9
                have X9' := kept X9.out s9
                have c0 : w9.cell? ⟨w2.heap.size, 0, none⟩ = some (.bool N.leaf) := by rw [Go.Joins.cell_of_block X9']; rfl
                have c1 : w9.cell? ⟨w2.heap.size, 1, none⟩ = some (.slice (some ⟨xb, xo, none⟩) N.K.length ck) := by rw [Go.Joins.cell_of_block X9']; rfl
                have c2 : w9.cell? ⟨w2.heap.size, 2, none⟩ = some (.slice (some ⟨zb, zo, none⟩) N.V.length cv) := by rw [Go.Joins.cell_of_block X9']; rfl
                have c3 : w9.cell? ⟨w2.heap.size, 3, none⟩ = some (.slice ac N.C.length cc) := by rw [Go.Joins.cell_of_block X9']; rfl
                clear s9
                go_simp
                try (with_reducible rfl)
              simp only [List.setIfInBounds_toArray, List.set_cons_zero, List.set_cons_succ]
              refine held_take (i := 3) 176 (v := ?ve3x4) rfl rfl (by kernel_rfl) (by kernel_rfl) (by kernel_rfl) (fun _ _ _ h => h) hS (by rfl) ?he3x4 ?re3x4
              case he3x4 =>
                intro w9 s9
                clear s9
                go_simp
                try (with_reducible rfl)
              simp only [List.setIfInBounds_toArray, List.set_cons_zero, List.set_cons_succ]
              refine held_take (i := 4) 177 (v := ?ve4x5) rfl rfl (by kernel_rfl) (by kernel_rfl) (by kernel_rfl) (fun _ _ _ h => h) hS (by rfl) ?he4x5 ?re4x5
              case he4x5 =>
                intro w9 s9
                clear s9
                go_simp
                try (with_reducible rfl)
              simp only [List.setIfInBounds_toArray, List.set_cons_zero, List.set_cons_succ]
              refine held_take (i := 5) 178 (v := ?ve5x6) rfl rfl (by kernel_rfl) (by kernel_rfl) (by kernel_rfl) (fun _ _ _ h => h) hS (by rfl) ?he5x6 ?re5x6
              case he5x6 =>
                intro w9 s9
                have c := CK9.out _ s9
                clear s9
                go_simp
                try (with_reducible rfl)
              simp only [List.setIfInBounds_toArray, List.set_cons_zero, List.set_cons_succ]
              refine held_take (i := 6) 179 (v := ?ve6x7) rfl rfl (by kernel_rfl) (by kernel_rfl) (by kernel_rfl) (fun _ _ _ h => h) hS (by rfl) ?he6x7 ?re6x7
              case he6x7 =>
                intro w9 s9
                clear s9
                go_simp
                try (with_reducible rfl)
              simp only [List.setIfInBounds_toArray, List.set_cons_zero, List.set_cons_succ]
              refine held_take (i := 7) 180 (v := ?ve7x8) rfl rfl (by kernel_rfl) (by kernel_rfl) (by kernel_rfl) (fun _ _ _ h => h) hS (by rfl) ?he7x8 ?re7x8
              case he7x8 =>
                intro w9 s9
                have X9' := kept X9.out s9
                have c0 : w9.cell? ⟨w2.heap.size, 0, none⟩ = some (.bool N.leaf) := by rw [Go.Joins.cell_of_block X9']; rfl
                have c1 : w9.cell? ⟨w2.heap.size, 1, none⟩ = some (.slice (some ⟨xb, xo, none⟩) N.K.length ck) := by rw [Go.Joins.cell_of_block X9']; rfl
                have c2 : w9.cell? ⟨w2.heap.size, 2, none⟩ = some (.slice (some ⟨zb, zo, none⟩) N.V.length cv) := by rw [Go.Joins.cell_of_block X9']; rfl
                have c3 : w9.cell? ⟨w2.heap.size, 3, none⟩ = some (.slice ac N.C.length cc) := by rw [Go.Joins.cell_of_block X9']; rfl
                clear s9
                go_simp
                try (with_reducible rfl)
              simp only [List.setIfInBounds_toArray, List.set_cons_zero, List.set_cons_succ]
              refine held_take (i := 8) 181 (v := ?ve8x9) rfl rfl (by kernel_rfl) (by kernel_rfl) (by kernel_rfl) (fun _ _ _ h => h) hS (by rfl) ?he8x9 ?re8x9
              case he8x9 =>
                intro w9 s9
                clear s9
                go_simp
                try (with_reducible rfl)
              simp only [List.setIfInBounds_toArray, List.set_cons_zero, List.set_cons_succ]
              refine held_take (i := 9) 182 (v := ?ve9x10) rfl rfl (by kernel_rfl) (by kernel_rfl) (by kernel_rfl) (fun _ _ _ h => h) hS (by rfl) ?he9x10 ?re9x10
              case he9x10 =>
                intro w9 s9
                clear s9
                go_simp
                try (with_reducible rfl)
              simp only [List.setIfInBounds_toArray, List.set_cons_zero, List.set_cons_succ]
              refine held_take (i := 10) 183 (v := ?ve10x11) rfl rfl (by kernel_rfl) (by kernel_rfl) (by kernel_rfl) (fun _ _ _ h => h) hS (by rfl) ?he10x11 ?re10x11
              case he10x11 =>
                intro w9 s9
                have c := CV9.out _ s9
                clear s9
                go_simp
                try (with_reducible rfl)
              simp only [List.setIfInBounds_toArray, List.set_cons_zero, List.set_cons_succ]
              refine held_take (i := 12) 185 (v := ?ve12x12) rfl rfl (by kernel_rfl) (by kernel_rfl) (by kernel_rfl) (fun _ _ _ h => h) hS (by rfl) ?he12x12 ?re12x12
              case he12x12 =>
                intro w9 s9
                have X9' := kept X9.out s9
                have c0 : w9.cell? ⟨w2.heap.size, 0, none⟩ = some (.bool N.leaf) := by rw [Go.Joins.cell_of_block X9']; rfl
                have c1 : w9.cell? ⟨w2.heap.size, 1, none⟩ = some (.slice (some ⟨xb, xo, none⟩) N.K.length ck) := by rw [Go.Joins.cell_of_block X9']; rfl
                have c2 : w9.cell? ⟨w2.heap.size, 2, none⟩ = some (.slice (some ⟨zb, zo, none⟩) N.V.length cv) := by rw [Go.Joins.cell_of_block X9']; rfl
                have c3 : w9.cell? ⟨w2.heap.size, 3, none⟩ = some (.slice ac N.C.length cc) := by rw [Go.Joins.cell_of_block X9']; rfl
                clear s9
                go_simp
                try (with_reducible rfl)
              simp only [List.setIfInBounds_toArray, List.set_cons_zero, List.set_cons_succ]
              refine held_step (i := 11) rfl (by kernel_rfl) (fun K hK => ?_)
              have HK := Lib.hid hK
              clear hK
              go_simp
              go_wp2_with fail
              refine (PT.out _ _ _ _ _ _ _ R9.out.ok (O9.out.below hS)).mono ?_
              rintro e u5 ⟨⟨uk, uv, uc, ua, ub, ud, rfl, hU, -, -, -⟩, b5⟩
              have hUH := Lib.hid hU
              clear hU
              simp only [nodV]
              refine HK.out _ _ ?_ ?_
              · exact chain hS b5
              clear HK K
              try simp only [Act.put, List.setIfInBounds_toArray, List.set_cons_zero, List.set_cons_succ]
              have hS9 := chain hS b5
              clear hS
              have hS := hS9
              clear hS9
              clear b5
              refine held_step (i := 13) rfl (by kernel_rfl) (fun K hK => ?_)
              have HK := Lib.hid hK
              clear hK
              go_simp
              go_wp2_with fail
              refine (RF.out _ _ _ _ _ _ _).mono ?_
              rintro e u6 ⟨rfl, b6⟩
              have hUG := Lib.hid (hUH.out.below b6)
              clear hUH
              have hUH := hUG
              clear hUG
              simp only [nodV]
              refine HK.out _ _ ?_ ?_
              · exact chain hS b6
              clear HK K
              try simp only [Act.put, List.setIfInBounds_toArray, List.set_cons_zero, List.set_cons_succ]
              have hS9 := chain hS b6
              clear hS
              have hS := hS9
              clear hS9
              clear b6
              refine held_step (i := 14) rfl (by kernel_rfl) (fun K hK => ?_)
              have HK := Lib.hid hK
              clear hK
              go_simp
              go_wp2_with fail
              refine (ND.out _ _ _ _ _ _ _ _ _ _ _ _ _ hUH.out (R9.out.below hS)).mono ?_
              rintro e u7 ⟨rfl, b7⟩
              refine HK.out _ _ ?_ ?_
              · exact chain hS b7
              clear HK K
              try simp only [Act.put, List.setIfInBounds_toArray, List.set_cons_zero, List.set_cons_succ]
              have hS9 := chain hS b7
              clear hS
              have hS := hS9
              clear hS9
              clear b7
              refine held_take (i := 15) 19 (v := ?ve15x13) rfl rfl (by kernel_rfl) (by kernel_rfl) (by kernel_rfl) (fun _ _ _ h => h) hS (by rfl) ?he15x13 ?re15x13
              case he15x13 =>
                intro w9 s9
                clear s9
                go_simp
                try (with_reducible rfl)
              simp only [List.setIfInBounds_toArray, List.set_cons_zero, List.set_cons_succ]
              refine wpAnyH_done (by kernel_rfl) ?_ _
              have H28 := Lib.hid hS
              clear hS hUH
              have Y10 := Lib.hid (kept Y9.out H28.out)
              have X10 := Lib.hid (kept X9.out H28.out)
              have y0 : u7.cell? ⟨w2.heap.size, 0, none⟩ = some (.bool N.leaf) := by rw [Go.Joins.cell_of_block X10.out]; rfl
              have y1 : u7.cell? ⟨w2.heap.size, 1, none⟩ = some (.slice (some ⟨xb, xo, none⟩) N.K.length ck) := by rw [Go.Joins.cell_of_block X10.out]; rfl
              have y2 : u7.cell? ⟨w2.heap.size, 2, none⟩ = some (.slice (some ⟨zb, zo, none⟩) N.V.length cv) := by rw [Go.Joins.cell_of_block X10.out]; rfl
              have y3 : u7.cell? ⟨w2.heap.size, 3, none⟩ = some (.slice ac N.C.length cc) := by rw [Go.Joins.cell_of_block X10.out]; rfl
              have z0 : u7.cell? ⟨w7.heap.size, 0, none⟩ = some (.bool O.leaf) := by rw [Go.Joins.cell_of_block Y10.out]; rfl
              have z1 : u7.cell? ⟨w7.heap.size, 1, none⟩ = some (.slice bk O.K.length dk) := by rw [Go.Joins.cell_of_block Y10.out]; rfl
              have z2 : u7.cell? ⟨w7.heap.size, 2, none⟩ = some (.slice bv O.V.length dv) := by rw [Go.Joins.cell_of_block Y10.out]; rfl
              have z3 : u7.cell? ⟨w7.heap.size, 3, none⟩ = some (.slice bc O.C.length dc) := by rw [Go.Joins.cell_of_block Y10.out]; rfl
              go_wp2_with fail
              go_ret
              exact ⟨rfl, chain B9.out H28.out⟩
end Go.Proofs.Ytkdcoipbdkmieaa
