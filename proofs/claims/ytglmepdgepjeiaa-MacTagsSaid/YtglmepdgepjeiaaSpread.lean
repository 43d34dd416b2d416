/-
  spread.
-/
import Derived.Test.YtglmepdgepjeiaaArr
import Derived.Test.YtglmepdgepjeiaaSha1
import Derived.Lib.OthersKept
import Derived.Deep.DeepCutAuto
import Derived.Laws.CopyOwn
namespace Go.Proofs.Ytglmepdgepjeiaa
open Go.RowKit
set_option linter.unusedVariables false

/-- The words so far, and zeros. -/
def fill (l : List Nat) : List Nat := l ++ List.replicate (64 - l.length) 0
theorem fill_length (l : List Nat) (h : l.length ≤ 64) : (fill l).length = 64 := by unfold fill; simp; omega
theorem fill_get (l : List Nat) (j : Nat) (h : j < l.length) (h2 : j < (fill l).length) : (fill l)[j] = l.getD j 0 := by
  have : (fill l)[j]? = some (l.getD j 0) := by
    unfold fill
    rw [List.getElem?_append_left h, List.getD_eq_getElem?_getD, List.getElem?_eq_getElem h]; rfl
  rw [List.getElem?_eq_getElem h2] at this
  exact Option.some.inj this
theorem fill_zero (l : List Nat) (h : l.length < 64) : fill (l ++ [0]) = fill l := by
  unfold fill
  rw [List.length_append, List.length_singleton, show 64 - l.length = (64 - (l.length + 1)) + 1 by omega, List.replicate_succ]
  simp
theorem fill_full (l : List Nat) (h : l.length = 64) : fill l = l := by unfold fill; rw [h]; simp
theorem Buf.other {w : World} {g : Nat} {l : List UInt8} (h : Buf w g l) (a : Addr) (v : Value) (hne : g ≠ a.block) : Buf (w.setCell a v) g l := by
  refine ⟨by simpa [World.setCell] using h.1, fun j hj => ⟨?_, ?_⟩⟩
  · have := heap_setCell_other w a g v hne
    have hc := h.cell j hj
    unfold World.cell? at hc ⊢
    simp only [this]
    exact hc
  · rw [World.frozen?_setCell]; exact h.free j hj
theorem shl_or (v c : Nat) (hv : v < 16777216) (hc : c < 256) : bits .or .u32 ((v : Int) * 256) (c : Int) = ((v * 256 + c : Nat) : Int) := by
  have e : (v : Int) * 256 = ((v * 256 : Nat) : Int) := by omega
  rw [e, u32_or_nat (v * 256) c (by omega) (by omega), nat_join 8 (v * 256) c (by simp) (by simpa using hc)]
theorem val_lt24 (l : List UInt8) (t : Nat) (h : t ≤ 3) : M.val (l.take t) < 16777216 := by
  have h1 := M.val_lt (l.take t)
  have h2 : 256 ^ (l.take t).length ≤ 256 ^ 3 := Nat.pow_le_pow_right (by decide) (by simp; omega)
  have h3 : (256 : Nat) ^ 3 = 16777216 := by decide
  omega
theorem xor_fact (a b : Nat) (ha : a < 4294967296) (hb : b < 4294967296) : ∃ p, p < 4294967296 ∧ a ^^^ b = p ∧ bits .xor .u32 (a : Int) (b : Int) = (p : Int) := ⟨_, S.xor_lt ha hb, rfl, u32_xor_nat a b ha hb⟩
theorem add_fact (a b : Nat) : ((a : Int) + (b : Int)) % 4294967296 = (S.add a b : Int) ∧ IntKind.u32.wrap ((a : Int) + (b : Int)) = (S.add a b : Int) := by
  have : ((a : Int) + (b : Int)) % 4294967296 = (S.add a b : Int) := by unfold S.add; omega
  exact ⟨this, by rw [IntKind.wrap_u32]; exact this⟩
theorem x3_eq (a b c : Nat) : S.x3 a b c = a ^^^ b ^^^ c := rfl
theorem s0_eq (x : Nat) : S.s0 x = S.x3 (S.rot x 7) (S.rot x 18) (x / 8) := rfl
theorem s1_eq (x : Nat) : S.s1 x = S.x3 (S.rot x 17) (S.rot x 19) (x / 1024) := rfl
theorem s0_fact (x : Nat) (hx : x < 4294967296) : ∃ p : Nat, bits .xor .u32 (S.rot x 7 : Int) (S.rot x 18 : Int) = (p : Int) ∧ bits .xor .u32 (p : Int) ((x : Int) / 8) = (S.s0 x : Int) := by
  refine ⟨S.rot x 7 ^^^ S.rot x 18, u32_xor_nat _ _ (S.rot_lt _ _ hx) (S.rot_lt _ _ hx), ?_⟩
  have h := u32_xor_nat (S.rot x 7 ^^^ S.rot x 18) (x / 8) (S.xor_lt (S.rot_lt _ _ hx) (S.rot_lt _ _ hx)) (Nat.lt_of_le_of_lt (Nat.div_le_self _ _) hx)
  simp only [Int.natCast_ediv, Int.cast_ofNat_Int] at h
  rw [s0_eq, x3_eq]
  exact h
theorem s1_fact (x : Nat) (hx : x < 4294967296) : ∃ p : Nat, bits .xor .u32 (S.rot x 17 : Int) (S.rot x 19 : Int) = (p : Int) ∧ bits .xor .u32 (p : Int) ((x : Int) / 1024) = (S.s1 x : Int) := by
  refine ⟨S.rot x 17 ^^^ S.rot x 19, u32_xor_nat _ _ (S.rot_lt _ _ hx) (S.rot_lt _ _ hx), ?_⟩
  have h := u32_xor_nat (S.rot x 17 ^^^ S.rot x 19) (x / 1024) (S.xor_lt (S.rot_lt _ _ hx) (S.rot_lt _ _ hx)) (Nat.lt_of_le_of_lt (Nat.div_le_self _ _) hx)
  simp only [Int.natCast_ediv, Int.cast_ofNat_Int] at h
  rw [s1_eq, x3_eq]
  exact h
theorem wnext_of (ws : List Nat) (n : Nat) {x y z u : Nat} (ex : ws.getD (n - 15) 0 = x) (ey : ws.getD (n - 2) 0 = y) (ez : ws.getD (n - 7) 0 = z) (eu : ws.getD (n - 16) 0 = u) : S.wnext ws n = S.add (S.add (S.add (S.s1 y) z) (S.s0 x)) u := by
  subst ex ey ez eu
  rfl
theorem fill_next (l : List Nat) (v : Nat) (h : l.length < 64) : (fill l).set l.length v = fill (l ++ [v]) := by
  unfold fill
  rw [List.set_append_right _ _ (Nat.le_refl _), Nat.sub_self, List.length_append, List.length_singleton, show 64 - l.length = (64 - (l.length + 1)) + 1 by omega, List.replicate_succ, List.set_cons_zero]
  simp
theorem fill_same (l : List Nat) (u v : Nat) (h : l.length < 64) : (fill (l ++ [u])).set l.length v = fill (l ++ [v]) := by
  unfold fill
  rw [List.append_assoc, List.append_assoc, List.set_append_right _ _ (Nat.le_refl _), Nat.sub_self, List.length_append, List.length_append]
  rfl
theorem Buf.opened (w : World) (b : ByteArray) : ∃ cap w2 g, (convert 9 27 (.string b)).run Try.prog w = .ok (.slice (some ⟨g, 0, none⟩) b.size cap) w2 ∧ Buf w2 g b.data.toList ∧ Below w.heap.size w w2 ∧ w.heap.size ≤ g :=
  ⟨_, _, _, run_bytes_of_string (P := Try.prog) w 9 27 5 b Try.underlying9 Try.underlying27 Try.underlying5, Buf.made w b _, ((Below.refl _ _).drew).alloc (Nat.le_refl _) _, Nat.le_refl _⟩
/-- The words of a block. -/
def W64 (b : List UInt8) : List Nat := S.wds b 64
def IsW (b : ByteArray) (L : List Nat) : Prop := W64 b.data.toList = L
theorem IsW.out {b : ByteArray} {L : List Nat} (h : IsW b L) : W64 b.data.toList = L := h
set_option maxHeartbeats 6400000 in
set_option maxRecDepth 100000 in
theorem spread_walk (b : ByteArray) (L : List Nat) (w : World) (hb : b.size = 64) (HL : IsW b L) :
    Calls Try.prog 29 #[.string b] w fun e w' => e = .returned (.agg (U L)) ∧ Below w.heap.size w w' := by
  go_enter Try.func29, Try.ntmps29
  go_wp2_with fail
  go_loopw [12] (fun i wr => ∃ n : Nat, n ≤ 16 ∧ i = .int .i64 (n : Int) ∧ Hid (Arr 39 wr (w.heap.size + 1) (fill (S.wds b.data.toList n))) ∧ Hid (Arr 39 wr w.heap.size (fill [])) ∧ Below w.heap.size w wr) (fun i _ => 17 - (intOf i).toNat)
  case atStart =>
    refine ⟨0, by omega, rfl, Lib.hid ?_, Lib.hid ?_, ((Below.refl _ _).alloc (Nat.le_refl _) _).alloc (by simp) _⟩
    · have := Arr.new (T := 39) (w.alloc (.cells (U (fill [])) 39)) (fill [])
      rw [show (w.alloc (.cells (U (fill [])) 39)).heap.size = w.heap.size + 1 by simp] at this
      exact this
    · exact (Arr.new (T := 39) w (fill [])).alloc _
  case round =>
    obtain ⟨n, hn, rfl, hA, hR, hbw⟩ := hrel
    by_cases hlt : n < 16
    · have hli : (n : Int) < 16 := by omega
      have hi1 : 4 * (n : Int) + 4 ≤ (b.size : Int) := by omega
      obtain ⟨cap, w2, g, hbs, hB, hW, hg⟩ := Buf.opened wr (b.extract (4 * n) (4 * n + 4))
      have hsz : (b.extract (4 * n) (4 * n + 4)).size = 4 := by rw [ByteArray.size_extract]; omega
      have hbl : (b.extract (4 * n) (4 * n + 4)).data.toList = (b.data.toList.drop (4 * n)).take 4 := by rw [extract_list, show 4 * n + 4 - 4 * n = 4 by omega]
      rw [hsz] at hbs
      rw [hbl] at hB
      have hwl := S.wds_length b.data.toList n
      have hlen4 : ((b.data.toList.drop (4 * n)).take 4).length = 4 := by rw [← hbl, size_list, hsz]
      have A2 := Lib.hid (hA.out.below hW)
      have R2 := Lib.hid (hR.out.below hW)
      have HB := Lib.hid hB
      have hg2 : w.heap.size + 1 < g := Nat.lt_of_lt_of_le hA.out.lt hg
      have hbw2 : Below w.heap.size w w2 := hbw.trans (hW.mono hbw.size)
      have WORD : Hid (S.wds b.data.toList (n + 1) = S.wds b.data.toList n ++ [M.val (((b.data.toList.drop (4 * n)).take 4).take 4)]) := Lib.hid (by rw [S.wds, if_pos hlt, S.word, List.take_take, Nat.min_self])
      generalize (b.data.toList.drop (4 * n)).take 4 = l4 at *
      generalize S.wds b.data.toList n = ws at *
      have HWL := Lib.hid hwl
      have HL4 := Lib.hid hlen4
      clear hwl hlen4 hB hbl hsz hA hR hbw
      go_wp2_with fail
      go_loopw [6, 24] (fun _ t wx => ∃ j : Nat, j ≤ 4 ∧ t = .int .i64 (j : Int) ∧ Hid (Arr 39 wx (w.heap.size + 1) (fill (ws ++ [M.val (l4.take j)]))) ∧ Hid (Arr 39 wx w.heap.size (fill [])) ∧ Hid (Buf wx g l4) ∧ Below w.heap.size w wx) (fun _ t _ => 5 - (intOf t).toNat)
      case atStart => exact ⟨0, by omega, rfl, Lib.hid (by rw [List.take_zero, M.val_nil, fill_zero _ (by rw [HWL.out]; omega)]; exact A2.out), R2, HB, hbw2⟩
      case round =>
        obtain ⟨j, hj, rfl, hA, hR, hBf, hbx⟩ := hrel
        by_cases hjl : j < 4
        · have hji : (j : Int) < 4 := by omega
          have hjl4 : j < l4.length := by rw [HL4.out]; exact hjl
          have hcb := hBf.out.cell j hjl4
          have hfl : n < (fill (ws ++ [M.val (l4.take j)])).length := by rw [fill_length _ (by rw [List.length_append, HWL.out]; simp; omega)]; omega
          have hca := hA.out.cell n hfl
          have hfr := hA.out.free n
          have hget : (fill (ws ++ [M.val (l4.take j)]))[n] = M.val (l4.take j) := by
            rw [fill_get _ n (by rw [List.length_append, HWL.out]; simp) hfl, List.getD_eq_getElem?_getD, List.getElem?_append_right (by rw [HWL.out]; exact Nat.le_refl _), HWL.out, Nat.sub_self]
            rfl
          rw [hget] at hca
          have hc256 := UInt8.toNat_lt (l4[j])
          have hv24 := val_lt24 l4 j (by omega)
          have hO := shl_or _ _ hv24 hc256
          have hset := hA.out.set n (M.val (l4.take j) * 256 + (l4[j]).toNat)
          have hval : M.val (l4.take (j + 1)) = M.val (l4.take j) * 256 + (l4[j]).toNat := by rw [List.take_succ_eq_append_getElem hjl4, M.val_snoc]
          have hfs := fill_same ws (M.val (l4.take j)) (M.val (l4.take j) * 256 + (l4[j]).toNat) (by rw [HWL.out]; omega)
          rw [HWL.out] at hfs
          rw [hfs, ← hval] at hset
          rw [← hval] at hO
          have NXA := Lib.hid hset
          have NXR := Lib.hid (hR.out.other ⟨w.heap.size + 1, n, none⟩ (.int .u32 ((M.val (l4.take (j + 1)) : Nat) : Int)) (by simp))
          have NXB := Lib.hid (hBf.out.other ⟨w.heap.size + 1, n, none⟩ (.int .u32 ((M.val (l4.take (j + 1)) : Nat) : Int)) (by show g ≠ w.heap.size + 1; omega))
          have hv32 : M.val (l4.take (j + 1)) < 4294967296 := by rw [hval]; omega
          clear hset hval hfs hget hfl hA hR hBf
          generalize hV : M.val (l4.take (j + 1)) = v2 at *
          have V2 := Lib.hid hV
          clear hV
          generalize M.val (l4.take j) = v1 at *
          generalize (l4[j]).toNat = c at *
          clear hjl4
          go_wp2_with fail
          go_roundw
          case rel => exact ⟨j + 1, by omega, by go_num, by rw [V2.out]; exact NXA, NXR, NXB, hbx.setCell (by simp) _⟩
          case measure => simp [intOf]; omega
        · obtain rfl : j = 4 := by omega
          have AN := Lib.hid (show Arr 39 _ (w.heap.size + 1) (fill (S.wds b.data.toList (n + 1))) by rw [WORD.out]; exact hA.out)
          have hji : ¬ (((4 : Nat) : Int) < 4) := by omega
          go_wp2_with fail
          go_roundw
          case rel => exact ⟨n + 1, by omega, by go_num, AN, hR, hbx⟩
          case measure => simp [intOf]; omega
    · obtain rfl : n = 16 := by omega
      have hli : ¬ (((16 : Nat) : Int) < 16) := by omega
      go_wp2_with fail
      go_loopw [7] (fun i wx => ∃ n : Nat, 16 ≤ n ∧ n ≤ 64 ∧ i = .int .i64 (n : Int) ∧ Hid (Arr 39 wx (w.heap.size + 1) (fill (S.wds b.data.toList n))) ∧ Hid (Arr 39 wx w.heap.size (fill [])) ∧ Below w.heap.size w wx) (fun i _ => 65 - (intOf i).toNat)
      case atStart => exact ⟨16, by omega, by omega, rfl, hA, hR, hbw⟩
      case round =>
        obtain ⟨n, hn16, hn64, rfl, hA, hR, hbx⟩ := hrel
        have hwl := S.wds_length b.data.toList n
        have hwlt := S.wds_lt b.data.toList n
        by_cases hlt : n < 64
        · have hli : (n : Int) < 64 := by omega
          have hi0 : 16 ≤ (n : Int) := by omega
          have WORD : Hid (S.wds b.data.toList (n + 1) = S.wds b.data.toList n ++ [S.wnext (S.wds b.data.toList n) n]) := Lib.hid (by rw [S.wds, if_neg (by omega)])
          have get : ∀ k, k < n → ∃ v, v < 4294967296 ∧ (S.wds b.data.toList n).getD k 0 = v ∧ wr.cell? ⟨w.heap.size + 1, k, none⟩ = some (.int .u32 ((v : Nat) : Int)) := fun k hk => by
            have hkl : k < (fill (S.wds b.data.toList n)).length := by rw [fill_length _ (by omega)]; omega
            have hkw : k < (S.wds b.data.toList n).length := by omega
            refine ⟨_, ?_, rfl, ?_⟩
            · rw [List.getD_eq_getElem?_getD, List.getElem?_eq_getElem hkw]; exact hwlt _ (List.getElem_mem hkw)
            · have := hA.out.cell k hkl
              rwa [fill_get _ k hkw hkl] at this
          obtain ⟨x, hx, ex, cx⟩ := get (n - 15) (by omega)
          obtain ⟨y, hy, ey, cy⟩ := get (n - 2) (by omega)
          obtain ⟨z, hz, ez, cz⟩ := get (n - 7) (by omega)
          obtain ⟨u, hu, eu, cu⟩ := get (n - 16) (by omega)
          have hnx : S.wnext (S.wds b.data.toList n) n = S.add (S.add (S.add (S.s1 y) z) (S.s0 x)) u := wnext_of _ _ ex ey ez eu
          have hfn := fill_next (S.wds b.data.toList n) (S.wnext (S.wds b.data.toList n) n) (by omega)
          rw [hwl, ← WORD.out, hnx] at hfn
          have hfr := hA.out.free n
          have hfl : n < (fill (S.wds b.data.toList n)).length := by rw [fill_length _ (by omega)]; omega
          have hcn := hA.out.cell n hfl
          generalize (Value.int .u32 (((fill (S.wds b.data.toList n))[n] : Nat) : Int)) = cv at hcn
          obtain ⟨p1, f1, f2⟩ := s0_fact x hx
          obtain ⟨p2, f3, f4⟩ := s1_fact y hy
          have g1 := add_fact (S.s1 y) z
          have g2 := add_fact (S.add (S.s1 y) z) (S.s0 x)
          have g3 := add_fact (S.add (S.add (S.s1 y) z) (S.s0 x)) u
          have HN := Lib.hid hfn
          clear hnx hfn hfl get hwl hwlt ex ey ez eu WORD
          generalize S.add (S.add (S.add (S.s1 y) z) (S.s0 x)) u = q3 at *
          generalize S.add (S.add (S.s1 y) z) (S.s0 x) = q2 at *
          generalize S.add (S.s1 y) z = q1 at *
          generalize S.s0 x = sx at *
          generalize S.s1 y = sy at *
          obtain ⟨g11, g12⟩ := g1
          obtain ⟨g21, g22⟩ := g2
          obtain ⟨g31, g32⟩ := g3
          go_wp2_with fail
          go_quiet (fail)
          go_wp2_with fail
          refine (right_7 _ _ hx).mono ?_
          rintro e w9 ⟨rfl, rfl⟩
          go_wp2_with fail
          refine (right_18 _ _ hx).mono ?_
          rintro e w9 ⟨rfl, rfl⟩
          go_wp2_with fail
          refine (right_17 _ _ hy).mono ?_
          rintro e w9 ⟨rfl, rfl⟩
          go_wp2_with fail
          refine (right_19 _ _ hy).mono ?_
          rintro e w9 ⟨rfl, rfl⟩
          obtain ⟨wq, hwq⟩ : ∃ wq, wr.drewN nq = wq := ⟨_, rfl⟩
          rw [hwq]
          have HA2 := Lib.hid (show Arr 39 wq (w.heap.size + 1) _ by rw [← hwq]; exact hA.out.drewN nq)
          have HR2 := Lib.hid (show Arr 39 wq w.heap.size _ by rw [← hwq]; exact hR.out.drewN nq)
          have hbx2 : Below w.heap.size w wq := by rw [← hwq]; exact drewN_below hbx nq
          have cz2 : wq.cell? ⟨w.heap.size + 1, n - 7, none⟩ = some (.int .u32 ((z : Nat) : Int)) := by rw [← hwq]; exact cz
          have cu2 : wq.cell? ⟨w.heap.size + 1, n - 16, none⟩ = some (.int .u32 ((u : Nat) : Int)) := by rw [← hwq]; exact cu
          have cn2 : wq.cell? ⟨w.heap.size + 1, n, none⟩ = some cv := by rw [← hwq]; exact hcn
          have fr2 : wq.frozen? ⟨w.heap.size + 1, n, none⟩ = false := by rw [← hwq]; exact hfr
          clear hwq hA hR hbx cz cu cx cy hcn hfr
          go_wp2_with fail
          go_region
          all_goals
            go_wp2_with fail
            go_roundw
            case rel => exact ⟨n + 1, by omega, by omega, by go_num, Lib.hid (by rw [← HN.out]; exact (HA2.out.set n q3).drew), Lib.hid ((HR2.out.other _ _ (by simp)).drew), (hbx2.setCell (by simp) _).drew⟩
            case measure => simp [intOf]; omega
        · obtain rfl : n = 64 := by omega
          have hli : ¬ (((64 : Nat) : Int) < 64) := by omega
          have hA2 := hA.out
          rw [fill_full _ hwl] at hA2
          change Arr _ _ _ (W64 b.data.toList) at hA2
          rw [HL.out] at hA2
          have hlen : L.length = 64 := by rw [← HL.out]; exact S.wds_length _ _
          have hinfo : (Try.prog.info? 39).map (·.size) = some (U L).size := by rw [U_size, hlen]; kernel_rfl
          have hold : (U (fill [])).size = (U L).size := by rw [U_size, U_size, hlen]; rfl
          have hone := U_one L
          have hR2 := hR.out
          have hrow := hR2.row L
          have hdone : Below w.heap.size w (wr.setRow w.heap.size (U L)) := below_setRow hbx (Nat.le_refl _) _
          have A2 := Lib.hid hA2
          have R2 := Lib.hid hR2
          have IN := Lib.hid hinfo
          have OL := Lib.hid hold
          have ON := Lib.hid hone
          have RW := Lib.hid hrow
          clear hA2 hinfo hold hone hR2 hrow hA hR hwl hwlt hlen
          go_upto_region 18 with fail
          go_step
          refine wpList_load_row rfl 39 (.tmp 3) rfl (w.heap.size + 1) rfl 39 (U L) (0, 0) _ A2.out Try.underlying39 rfl IN.out ?_
          refine wpList_store_row rfl 39 (.tmp 2) (.tmp 82) rfl w.heap.size (U L) rfl rfl 39 (U (fill [])) R2.out IN.out OL.out ON.out ?_
          go_wp2_with fail
          exact bodyPost_ret (v := .agg (U L)) (results_cell_row Try.results29 _ _ w.heap.size 39 (U L) (0, 0) _ rfl RW.out Try.underlying39 rfl IN.out) rfl ⟨rfl, hdone⟩
theorem spread_any (b : ByteArray) (w : World) (hb : b.size = 64) :
    Calls Try.prog 29 #[.string b] w fun e w' => e = .returned (.agg (U (W64 b.data.toList))) ∧ Below w.heap.size w w' :=
  spread_walk b _ w hb (show IsW b _ from rfl)
end Go.Proofs.Ytglmepdgepjeiaa
