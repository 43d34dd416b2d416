import Derived.Test.YtnbljpdfmomjjaaCutsMath
import Derived.Deep.DeepCutAuto
import Derived.Outline
namespace Go.Proofs.Ytnbljpdfmomjjaa
open Go.RowKit
set_option linter.unusedVariables false

set_option maxHeartbeats 800000 in
theorem new_x (w : World) :
    Calls Try.prog 9 #[] w fun e w' => e = .returned (.pointer (some ⟨w.heap.size, 0, none⟩)) ∧ w'.heap[w.heap.size]? = some (.cells #[.slice none 0 0, .bool false] 53 (0, 0)) ∧ Below w.heap.size w w' := by
  go_enter Try.func9, Try.ntmps9
  go_wp2_with fail
  go_ret
  exact ⟨rfl, heap_alloc_new w _, (Below.refl _ _).alloc (Nat.le_refl _) _⟩
theorem one_str (w : World) (x : Value) (T : TypeId) : ∀ j u, [x][j]? = some u → (w.alloc (.cells #[x] T)).cell? ((⟨w.heap.size, 0, none⟩ : Addr).add j) = some u := by
  intro j u hj
  rw [addr_add, World.cell?_alloc_new]
  match j, hj with
  | 0, hj => simpa using hj
/-- The bytes of a text that stands in a slot. -/
def szOf : Value → Nat
  | .string s => s.size
  | _ => 0
theorem str_cells {w : World} {base : Nat} {a : Option Addr} {c n : Nat} {T : List ByteArray} (h : w.ownsRow base 9 1 (.slice a n c) n (T.map Value.string)) (hl : T.length = n) :
    T = [] ∨ ∃ g, a = some ⟨g, 0, none⟩ ∧ base ≤ g ∧ g < w.heap.size ∧ (∃ cs, w.heap[g]? = some (.cells cs 9 (0, 0))) ∧ ∀ j (hj : j < T.length), w.cell? ⟨g, j, none⟩ = some (.string T[j]) := by
  have h2 := h
  rcases own_cells h with ⟨hv, hx⟩ | ⟨g, cap, hv, _, hc⟩
  · left; simpa using hx
  · right
    injection hv with ha _ _
    subst ha
    refine ⟨g, rfl, (h.lt g rfl).1, (h.lt g rfl).2, ?_, fun j hj => ?_⟩
    · rcases h2.2 with ⟨hv2, _⟩ | ⟨g2, cap2, cur, hv2, _, hh, _⟩
      · injection hv2 with h1 _ _; cases h1
      · injection hv2 with h1 _ _
        injection h1 with h1
        injection h1 with h1 _
        subst h1
        exact ⟨_, hh⟩
    · have := hc j _ (by rw [List.getElem?_map, List.getElem?_eq_getElem hj]; rfl)
      rwa [addr_add, Nat.zero_add] at this
set_option maxHeartbeats 6400000 in
set_option maxRecDepth 20000 in
theorem frameCuts_walk (b off len cap n : Nat) (ss : List ByteArray) (w : World) (a1 : Option Addr) (len1 cap1 : Nat) (zs : List Int) (hb : b < w.heap.size) (hc : Hid (∀ i, i < cap → w.cell? ⟨b, off + i, none⟩ = some (.string (ss.getD i ByteArray.empty)))) (hlc : len ≤ cap) (hcm : (cap : Int) ≤ 9223372036854775807)
    (hn1 : n ≤ len) (hn2 : n ≤ 20) (hn3 : len ≤ n ∨ 20 ≤ n) (hsz : Hid (∀ i, (ss.getD i ByteArray.empty).size ≤ 9223372036854775807)) (w1 : IsInts .u8 w a1 len1 cap1 zs) (T : List ByteArray) (hT : Hid (texts ss n = T)) :
    Calls Try.prog 4 #[.slice (some ⟨b, off, none⟩) len cap, .slice a1 len1 cap1] w fun e w' => e = .returned (.bool true) ∧ Below w.heap.size w w' := by
  obtain ⟨i0, hi, hz0, hz1, hz2⟩ := info_parts info_str
  have W1 := Lib.hid w1
  clear w1
  go_enter Try.func4, Try.ntmps4
  try simp only [List.append_eq, List.cons_append, List.nil_append]
  go_wp2_with fail
  refine (examples_any _).mono ?_
  rintro e w1 ⟨rfl, b1⟩
  go_wp2_with fail
  refine (new_x _).mono ?_
  rintro e w2 ⟨rfl, r2, b2⟩
  have B2 := Lib.hid (chain b1 b2)
  have hp := b1.size
  have R2 := Lib.hid r2
  have hp2 : w1.heap.size < w2.heap.size := (Array.getElem?_eq_some_iff.1 r2).1
  clear r2 b1 b2
  generalize w1.heap.size = p at *
  obtain ⟨B0, hB0⟩ : ∃ B0, w2.heap.size = B0 := ⟨_, rfl⟩
  have HB2 : Hid (Below B0 w2 w2 ∧ B0 ≤ w2.heap.size) := Lib.hid ⟨Below.refl _ _, by omega⟩
  have hbB : b < B0 := by have := B2.out.size; omega
  go_wp2_with fail
  go_loopw [7, 8, 9] (fun all v i wr => ∃ k : Nat, k ≤ n ∧ all = .string (Str (stream (texts ss k))) ∧ i = .int .i64 (k : Int) ∧ Hid (wr.ownsRow B0 9 1 v k ((texts ss k).map Value.string)) ∧ Hid (Below B0 w2 wr ∧ B0 ≤ wr.heap.size)) (fun _ _ i _ => n + 1 - (intOf i).toNat)
  case atStart => exact ⟨0, Nat.zero_le _, rfl, rfl, Lib.hid (World.ownsRow_nil _ _ _ _), HB2⟩
  case round =>
    obtain ⟨k, hk, rfl, rfl, HO, HB⟩ := hrel
    obtain ⟨va, vc, rfl⟩ := own_shape HO.out
    by_cases hkn : k < n
    · have hlt : (k : Int) < (len : Int) := by omega
      have h20 : (k : Int) < 20 := by omega
      have hcell : wr.cell? ⟨b, off + k, none⟩ = some (.string (ss.getD k ByteArray.empty)) := (HB.out.1.cell (p := ⟨b, off + k, none⟩) hbB).trans ((B2.out.cell (p := ⟨b, off + k, none⟩) hb).trans (hc.out k (by omega)))
      have hss := hsz.out k
      have SN := Lib.hid (texts_succ ss k)
      have SL : (stream (texts ss k)).length ≤ 202 * k := by have := stream_length _ (texts_le ss k); rwa [texts_length] at this
      have SS := Lib.hid (stream_snoc (texts ss k) (cut200 (ss.getD k ByteArray.empty)))
      generalize ss.getD k ByteArray.empty = s at *
      have hAsz : ((Str (stream (texts ss k))).size : Int) ≤ 4040 := by rw [Str_size]; omega
      generalize Str (stream (texts ss k)) = A at *
      clear SL
      obtain ⟨f, hf0⟩ : ∃ f, frB (cut200 s) = f := ⟨_, rfl⟩
      have hfs : (f.size : Int) = ((cut200 s).size : Int) + 2 := by rw [← hf0, frB_size]; omega
      have hf := Lib.hid hf0
      have hc2 : ((cut200 s).size : Int) ≤ 200 := by have := cut200_size s; omega
      have hcut : Hid ((s.size : Int) ≤ 200 ∧ cut200 s = s ∨ 200 < (s.size : Int) ∧ s.extract 0 200 = cut200 s) := Lib.hid (by
        unfold cut200
        by_cases h : s.size ≤ 200
        · left; rw [if_pos h]; exact ⟨by omega, rfl⟩
        · right; rw [if_neg h]; exact ⟨by omega, rfl⟩)
      clear hf0
      generalize cut200 s = t at *
      have key : ∀ wq : World, Hid (Below B0 w2 wq ∧ B0 ≤ wq.heap.size) → Hid (wq.ownsRow B0 9 1 (.slice va k vc) k ((texts ss k).map Value.string)) → True := fun _ _ _ => trivial
      clear key
      rcases hcut.out with ⟨hs1, rfl⟩ | ⟨hs1, hs2⟩
      · go_wp2_with fail
        go_quiet (fail)
        obtain ⟨wq, hwq⟩ : ∃ wq, wr.drewN nq = wq := ⟨_, rfl⟩
        rw [hwq]
        have HBq : Hid (Below B0 w2 wq ∧ B0 ≤ wq.heap.size) := Lib.hid (by rw [← hwq]; exact ⟨drewN_below HB.out.1 _, HB.out.2⟩)
        have HOq : Hid (wq.ownsRow B0 9 1 (.slice va k vc) k ((texts ss k).map Value.string)) := Lib.hid (by rw [← hwq]; exact HO.out)
        clear hwq HO HB hcell
        go_wp2_with fail
        refine (fput_good t f _ hc2 hf).mono ?_
        rintro e w4 ⟨rfl, b4⟩
        have HB4 : Hid (Below B0 w2 w4 ∧ B0 ≤ w4.heap.size) := Lib.hid ⟨HBq.out.1.trans (b4.mono HBq.out.2), Nat.le_trans HBq.out.2 b4.size⟩
        have HO4 := Lib.hid (own_keep HOq.out fun g hg _ => b4.block g hg)
        clear b4 HOq HBq
        go_wp2_with (at_builtin; go_loud (refine wpList_append_own _ rfl (.tmp 64) (.tmp 66) 44 rfl B0 9 i0 (.string ByteArray.empty) 1 16 Try.underlying44 hi hz0 hz1 hz2 rfl (by decide) _ k _ rfl (HO4.out.alloc _) ⟨w4.heap.size, 0, none⟩ 1 1 [.string t] rfl rfl ?c1 ?c2 ?c3 ?c4 ?c5 ?_))
        case c1 => exact one_str w4 (.string t) _
        case c2 => intro u hu; simp at hu; subst hu; rfl
        case c3 => unfold maxLen; omega
        case c4 => omega
        case c5 => have := HB4.out.2; simp; omega
        intro v' w5 hown hgrow _
        have HB5 : Hid (Below B0 w2 w5 ∧ B0 ≤ w5.heap.size) := Lib.hid (by
          have hba : Below B0 w2 (w4.alloc (.cells #[.string t] 9)) := HB4.out.1.alloc HB4.out.2 _
          have hsa : B0 ≤ (w4.alloc (.cells #[.string t] 9)).heap.size := by have := HB4.out.2; simp; omega
          exact ⟨hba.grown hgrow hsa (fun g hg => (HO4.out.lt g hg).1), Nat.le_trans hsa hgrow.size⟩)
        have HO5 : Hid (w5.ownsRow B0 9 1 v' (k + 1) ((texts ss (k + 1)).map Value.string)) := Lib.hid (by rw [SN.out, List.map_append]; exact hown)
        clear hown hgrow HO4 HB4
        go_wp2_with fail
        go_roundw
        case rel => exact ⟨k + 1, by omega, by rw [SN.out, ← SS.out, hf.out], by go_num, HO5, HB5⟩
        case measure => simp [intOf]; omega
      · go_wp2_with fail
        go_quiet (fail)
        obtain ⟨wq, hwq⟩ : ∃ wq, wr.drewN nq = wq := ⟨_, rfl⟩
        rw [hwq]
        have HBq : Hid (Below B0 w2 wq ∧ B0 ≤ wq.heap.size) := Lib.hid (by rw [← hwq]; exact ⟨drewN_below HB.out.1 _, HB.out.2⟩)
        have HOq : Hid (wq.ownsRow B0 9 1 (.slice va k vc) k ((texts ss k).map Value.string)) := Lib.hid (by rw [← hwq]; exact HO.out)
        clear hwq HO HB hcell
        go_wp2_with fail
        refine (fput_good t f _ hc2 hf).mono ?_
        rintro e w4 ⟨rfl, b4⟩
        have HB4 : Hid (Below B0 w2 w4 ∧ B0 ≤ w4.heap.size) := Lib.hid ⟨HBq.out.1.trans (b4.mono HBq.out.2), Nat.le_trans HBq.out.2 b4.size⟩
        have HO4 := Lib.hid (own_keep HOq.out fun g hg _ => b4.block g hg)
        clear b4 HOq HBq
        go_wp2_with (at_builtin; go_loud (refine wpList_append_own _ rfl (.tmp 64) (.tmp 66) 44 rfl B0 9 i0 (.string ByteArray.empty) 1 16 Try.underlying44 hi hz0 hz1 hz2 rfl (by decide) _ k _ rfl (HO4.out.alloc _) ⟨w4.heap.size, 0, none⟩ 1 1 [.string t] rfl rfl ?c1 ?c2 ?c3 ?c4 ?c5 ?_))
        case c1 => exact one_str w4 (.string t) _
        case c2 => intro u hu; simp at hu; subst hu; rfl
        case c3 => unfold maxLen; omega
        case c4 => omega
        case c5 => have := HB4.out.2; simp; omega
        intro v' w5 hown hgrow _
        have HB5 : Hid (Below B0 w2 w5 ∧ B0 ≤ w5.heap.size) := Lib.hid (by
          have hba : Below B0 w2 (w4.alloc (.cells #[.string t] 9)) := HB4.out.1.alloc HB4.out.2 _
          have hsa : B0 ≤ (w4.alloc (.cells #[.string t] 9)).heap.size := by have := HB4.out.2; simp; omega
          exact ⟨hba.grown hgrow hsa (fun g hg => (HO4.out.lt g hg).1), Nat.le_trans hsa hgrow.size⟩)
        have HO5 : Hid (w5.ownsRow B0 9 1 v' (k + 1) ((texts ss (k + 1)).map Value.string)) := Lib.hid (by rw [SN.out, List.map_append]; exact hown)
        clear hown hgrow HO4 HB4
        go_wp2_with fail
        go_roundw
        case rel => exact ⟨k + 1, by omega, by rw [SN.out, ← SS.out, hf.out], by go_num, HO5, HB5⟩
        case measure => simp [intOf]; omega
    · obtain rfl : k = n := by omega
      have hnot : ¬ ((k : Int) < (len : Int) ∧ (k : Int) < 20) := by omega
      rw [hT.out] at HO
      rw [hT.out]
      by_cases hlen : (k : Int) < (len : Int)
      · have h20 : ¬ (k : Int) < 20 := by omega
        go_wp2_with fail
        have hTl : Hid (T.length = k) := Lib.hid (by rw [← hT.out, texts_length])
        have hT2 : Hid (∀ t ∈ T, t.size ≤ 200) := Lib.hid (by rw [← hT.out]; exact texts_le ss k)
        have hWant := Lib.hid (str_cells HO.out hTl.out)
        have hSl : (stream T).length ≤ 4040 := by have := stream_length T hT2.out; have := hTl.out; omega
        obtain ⟨W0, hW0⟩ : ∃ W0, wr = W0 := ⟨_, rfl⟩
        rw [hW0] at HO HB hWant ⊢
        clear hW0
        have hp0 : W0.heap[p]? = some (.cells #[.slice none 0 0, .bool false] 53 (0, 0)) := (HB.out.1.block p (by omega)).trans R2.out
        have hplt : p < W0.heap.size := (Array.getElem?_eq_some_iff.1 hp0).1
        have RX0 : Hid (RX W0 W0.heap.size p [] false) := Lib.hid ⟨.slice none 0 0, hp0, World.ownsRow_nil _ _ _ _⟩
        have hbw0 : Hid (Below w.heap.size w W0) := Lib.hid (B2.out.trans (HB.out.1.mono (by omega)))
        clear hp0 HO
        generalize hL0 : W0.heap.size = lo at *
        go_loopw [7, 13, 14] (fun all kk i wr => ∃ (c j : Nat) (l r : List UInt8), all = .string (Str r) ∧ kk = .int .i64 (c : Int) ∧ i = .int .i64 (j : Int) ∧ Hid (l ++ r = stream (T.drop c)) ∧ Hid (∀ t D, T.drop c = t :: D → l.length < 2 + t.size) ∧ Hid (c ≤ T.length) ∧ j + r.length ≤ 4040 ∧ Hid (RX wr lo p l false) ∧ Hid (Bx lo p W0 wr)) (fun all _ _ _ => szOf all)
        case atStart => exact ⟨0, 0, [], stream T, rfl, rfl, rfl, Lib.hid (by simp), Lib.hid (fun t D _ => by simp; omega), Lib.hid (Nat.zero_le _), by omega, RX0, Lib.hid (Bx.refl _ _ _)⟩
        clear RX0
        case round =>
          obtain ⟨c, j, l, r, rfl, rfl, rfl, hcat, hinc, hcT, hjr, HR, HX⟩ := hrel
          have hrs : (Str r).size = r.length := Str_size r
          by_cases hr0 : 0 < r.length
          · have hne : (Str r).toList.isEmpty = false := nonempty _ (by omega)
            have hrz : ((Str r).size : Int) ≤ 4040 := by omega
            have hr1 : 1 ≤ ((Str r).size : Int) := by omega
            have hj4 : (j : Int) ≤ 4040 := by omega
            have hrl := Lib.hid (Str_list r)
            generalize hQ : Str r = rb at *
            go_upto_if 74 with fail
            go_cut [15] (fun v wc => ∃ q : Nat, v = .int .i64 (q : Int) ∧ 1 ≤ q ∧ q ≤ 64 ∧ wr = wc)
            case first =>
              rcases W1.out with ⟨rfl, rfl, rfl, rfl⟩ | ⟨x1, rfl, hl1, hm1, hz1', hc1, hw1⟩
              · go_wp2_with fail
                go_meet
                exact ⟨64, rfl, by omega, by omega, rfl⟩
              · rcases Nat.eq_zero_or_pos len1 with rfl | hp1
                · go_wp2_with fail
                  go_meet
                  exact ⟨64, rfl, by omega, by omega, rfl⟩
                · obtain ⟨b1, o1, spot⟩ := x1
                  have hc0 := hc1 0 (by omega)
                  have hspot : spot = none := by simpa [Addr.add] using World.cell?_spot hc0
                  subst hspot
                  have hb1 : b1 < w.heap.size := World.block_lt_of_cell? w _ hc0
                  have hml : j % len1 < len1 := Nat.mod_lt _ hp1
                  have hcm1 := hc1 (j % len1) (by omega)
                  rw [addr_add] at hcm1
                  have hzw := bounds_u8 (hw1 (zs.getD (j % len1) 0) (by
                    rw [List.getD_eq_getElem?_getD, List.getElem?_eq_getElem (by omega)]
                    exact List.getElem_mem _))
                  have hcell : wr.cell? ⟨b1, o1 + j % len1, none⟩ = some (.int .u8 (zs.getD (j % len1) 0)) := by
                    have e1 : wr.heap[b1]? = w.heap[b1]? := (HX.out.block b1 (by have := hbw0.out.size; omega) (by omega)).trans (hbw0.out.block b1 hb1)
                    unfold World.cell? at hcm1 ⊢
                    simp only [e1]
                    exact hcm1
                  have htm : (j : Int).tmod (len1 : Int) = ((j % len1 : Nat) : Int) := by rw [Int.tmod_eq_emod_of_nonneg (by omega)]; omega
                  have hem : (j : Int) % (len1 : Int) = ((j % len1 : Nat) : Int) := by omega
                  have hmi : ((j % len1 : Nat) : Int) < (len1 : Int) := by omega
                  have hpi : 0 < (len1 : Int) := by omega
                  have hl1i : (len1 : Int) ≤ 9223372036854775807 := by unfold maxLen at hm1; omega
                  generalize zs.getD (j % len1) 0 = z at *
                  generalize j % len1 = mj at *
                  obtain ⟨q, hq, hq63⟩ : ∃ q : Nat, z % 64 = (q : Int) ∧ q ≤ 63 := ⟨(z % 64).toNat, by omega, by omega⟩
                  have hqt : z.tmod 64 = (q : Int) := by rw [Int.tmod_eq_emod_of_nonneg (by omega)]; exact hq
                  have hqi : (q : Int) ≤ 63 := by omega
                  clear hcm1 hc0 hw1 hc1 hml hzw
                  go_wp2_with fail
                  go_meet
                  exact ⟨1 + q, by go_num, by omega, by omega, rfl⟩
            case rest =>
              obtain ⟨q0, rfl, hq1, hq64, rfl⟩ := hcut
              go_upto_region 25 with fail
              go_cut [15] (fun v wc => ∃ q : Nat, v = .int .i64 (q : Int) ∧ 1 ≤ q ∧ q ≤ 64 ∧ (q : Int) ≤ (rb.size : Int) ∧ wr = wc)
              case first =>
                rcases Int.lt_or_le (rb.size : Int) (q0 : Int) with hmin | hmin
                · go_wp2_with fail
                  go_meet
                  exact ⟨rb.size, by go_num, by omega, by omega, by omega, rfl⟩
                · go_wp2_with fail
                  go_meet
                  exact ⟨q0, by go_num, by omega, by omega, by omega, rfl⟩
              case rest =>
                obtain ⟨q, rfl, hqa, hqb, hqr, rfl⟩ := hcut
                have hlow : lo ≤ wr.heap.size := by have := HX.out.size; omega
                have hpc : Hid ((rb.extract 0 q).data.toList = r.take q ∧ (rb.extract q r.length).data.toList = r.drop q) := Lib.hid (by
                  rw [extract_list, extract_list, hrl.out]
                  refine ⟨by simp, ?_⟩
                  rw [List.take_of_length_le (by rw [List.length_drop]; omega)])
                have hps : (rb.extract 0 q).size ≤ 64 := by rw [ByteArray.size_extract]; omega
                have hrs2 : (rb.extract q r.length).size = r.length - q := by rw [ByteArray.size_extract]; omega
                have hl4 : l.length ≤ 4040 := by
                  have h1 := congrArg List.length hcat.out
                  have h2 := stream_length (T.drop c) (fun t ht => hT2.out t (List.mem_of_mem_drop ht))
                  have h3 := hTl.out
                  rw [List.length_append] at h1
                  rw [List.length_drop] at h2
                  omega
                go_wp2_with fail
                generalize rb.extract 0 q = pc at *
                refine (add_goodX lo p l pc wr hlow HR.out (by omega)).mono ?_
                rw [hpc.out.1]
                rintro e w4 ⟨rfl, r4, b4⟩
                have HR4 := Lib.hid r4
                have HX4 := Lib.hid (HX.out.trans b4)
                clear r4 b4 HR HX hps
                go_wp2_with fail
                have hst : Hid (rb.extract q r.length = Str (r.drop q)) := Lib.hid (by rw [← hpc.out.2, Str_of])
                have hI1 : Hid ((l ++ r.take q) ++ r.drop q = stream (T.drop c)) := Lib.hid (by rw [List.append_assoc, List.take_append_drop]; exact hcat.out)
                have hI2 : Hid (∀ t D, T.drop c = t :: D → (l ++ r.take q).length ≤ 2 + t.size + 64) := Lib.hid (fun t D h => by
                  have := hinc.out t D h
                  rw [List.length_append, List.length_take]; omega)
                generalize rb.extract q r.length = rb2 at *
                clear hpc hcat hinc hl4
                go_loopw [13] (fun kk wr2 => ∃ (c : Nat) (l : List UInt8), kk = .int .i64 (c : Int) ∧ Hid (l ++ r.drop q = stream (T.drop c)) ∧ Hid (∀ t D, T.drop c = t :: D → l.length ≤ 2 + t.size + 64) ∧ Hid (c ≤ T.length) ∧ Hid (RX wr2 lo p l false) ∧ Hid (Bx lo p W0 wr2)) (fun kk _ => T.length - (intOf kk).toNat)
                case atStart => exact ⟨c, _, rfl, hI1, hI2, hcT, HR4, HX4⟩
                clear hI1 hI2 hcT HR4 HX4
                case round =>
                  obtain ⟨c, l, rfl, hcat, hbnd, hcT, HR, HX⟩ := hrel
                  have hlow : lo ≤ wr.heap.size := by have := HX.out.size; omega
                  by_cases hl2 : l.length < 2
                  · go_wp2_with fail
                    refine (next_shortX lo p l wr HR.out hl2).mono ?_
                    rintro e w5 ⟨rfl, rfl⟩
                    go_wp2_with fail
                    go_roundw
                    case rel => exact ⟨c, j + 1, l, r.drop q, by rw [hst.out], rfl, by go_num, hcat, Lib.hid (fun t D _ => by omega), hcT, by rw [List.length_drop]; omega, HR, HX⟩
                    case measure => simp only [szOf]; omega
                  · obtain ⟨t, D', hdrop, htk⟩ := stream_head l (r.drop q) (T.drop c) hcat.out (by omega)
                    have hmem : t ∈ T := List.mem_of_mem_drop (by rw [hdrop]; exact List.mem_cons_self ..)
                    have ht200 := hT2.out t hmem
                    have ht2i : (t.size : Int) ≤ 200 := by omega
                    have hv : Hid (M.val (l.take 2) = t.size) := Lib.hid (by rw [htk, M.val_be]; exact Nat.mod_eq_of_lt (by omega))
                    have hb2 := hbnd.out t D' hdrop
                    by_cases hfull : l.length < 2 + t.size
                    · go_wp2_with fail
                      refine (next_waitX lo p l t.size wr HR.out (by omega) (by omega) hv ht2i (by omega)).mono ?_
                      rintro e w5 ⟨rfl, r5, b5⟩
                      have HR5 := Lib.hid r5
                      have HX5 := Lib.hid (HX.out.trans (Bx.of b5 hlow))
                      clear r5 b5 HR HX
                      go_wp2_with fail
                      go_roundw
                      case rel => exact ⟨c, j + 1, l, r.drop q, by rw [hst.out], rfl, by go_num, hcat, Lib.hid (fun t1 D1 h1 => by rw [hdrop] at h1; injection h1 with h1 _; subst h1; exact hfull), hcT, by rw [List.length_drop]; omega, HR5, HX5⟩
                      case measure => simp only [szOf]; omega
                    · have hcat2 := hcat.out
                      rw [hdrop] at hcat2
                      obtain ⟨htext, hnext⟩ := stream_tell l (r.drop q) t D' hcat2 (by omega)
                      have hc1 : c < T.length := by
                        rcases Nat.lt_or_ge c T.length with h | h
                        · exact h
                        · rw [List.drop_eq_nil_of_le h] at hdrop; cases hdrop
                      have hTc : T[c] = t ∧ T.drop (c + 1) = D' := by
                        rw [List.drop_eq_getElem_cons hc1] at hdrop
                        injection hdrop with h1 h2
                        exact ⟨h1, h2⟩
                      have hnx : Hid (l.drop (2 + t.size) ++ r.drop q = stream (T.drop (c + 1))) := Lib.hid (by rw [hTc.2]; exact hnext)
                      have hnb : Hid (∀ t1 D1, T.drop (c + 1) = t1 :: D1 → (l.drop (2 + t.size)).length ≤ 2 + t1.size + 64) := Lib.hid (fun t1 D1 _ => by rw [List.length_drop]; omega)
                      have hnc : Hid (c + 1 ≤ T.length) := Lib.hid (by omega)
                      have hck : (c : Int) < (k : Int) := by have := hTl.out; omega
                      go_wp2_with fail
                      refine (next_tellX lo p l t.size t wr (Lib.hid htext) hlow HR.out (by omega) (by omega) (by omega) hv ht2i).mono ?_
                      rintro e w5 ⟨rfl, r5, b5⟩
                      have HR5 := Lib.hid r5
                      have HX5 := Lib.hid (HX.out.trans b5)
                      clear r5 b5 HR HX hcat hcat2 hnext htext hbnd hcT
                      obtain ⟨gw, hva, hg0, hg1, ⟨cs, hgc⟩, hgcell⟩ : ∃ g, va = some ⟨g, 0, none⟩ ∧ B0 ≤ g ∧ g < lo ∧ (∃ cs, W0.heap[g]? = some (.cells cs 9 (0, 0))) ∧ ∀ j (hj : j < T.length), W0.cell? ⟨g, j, none⟩ = some (.string T[j]) := by
                        rcases hWant.out with h | h
                        · subst h; simp at hc1
                        · exact h
                      have hwc : w5.cell? ⟨gw, c, none⟩ = some (.string t) := by
                        have h1 := hgcell c hc1
                        rw [hTc.1] at h1
                        have e1 : w5.heap[gw]? = W0.heap[gw]? := HX5.out.block gw (by omega) (by omega)
                        unfold World.cell? at h1 ⊢
                        simp only [e1]
                        exact h1
                      clear hgc hgcell hTc hdrop
                      subst hva
                      go_wp2_with fail
                      go_roundw
                      case rel => exact ⟨c + 1, _, by go_num, hnx, hnb, hnc, HR5, HX5⟩
                      case measure => simp [intOf]; omega
          · have hr : r = [] := List.eq_nil_of_length_eq_zero (by omega)
            subst hr
            have hdn : T.drop c = [] := by
              cases hd : T.drop c with
              | nil => rfl
              | cons t D =>
                have h1 := hinc.out t D hd
                have h2 := hcat.out
                rw [hd, stream_cons, List.append_nil] at h2
                have h3 := congrArg List.length h2
                rw [List.length_append, List.length_append, M.be_length] at h3
                simp at h3
                omega
            have hck : c = k := by
              have h1 := List.drop_eq_nil_iff.1 hdn
              have h2 := hcT.out
              have h3 := hTl.out
              omega
            have hl0 : l = [] := by
              have h2 := hcat.out
              rw [hdn, List.append_nil] at h2
              exact h2
            subst hl0
            subst hck
            have HRf := HR
            have FBf : Hid (Below w.heap.size w wr) := Lib.hid (hbw0.out.trans (HX.out.below (by have := hbw0.out.size; omega) hp))
            have hsE : (Str []) = (⟨#[]⟩ : ByteArray) := rfl
            rw [hsE]
            clear hcat hinc hcT HR HX hrs hdn hr0 hsE
            go_wp2_with fail
            refine (rest_anyX lo p [] false wr HRf.out).mono ?_
            rintro e w6 ⟨rfl, rfl⟩
            go_wp2_with fail
            refine (bad_anyX lo p [] false wr HRf.out).mono ?_
            rintro e w6 ⟨rfl, rfl⟩
            go_wp2_with fail
            go_ret
            refine ⟨ret_true ?_, FBf.out⟩
            first | rfl | (simp; done) | (simp; omega)
      · go_wp2_with fail
        have hTl : Hid (T.length = k) := Lib.hid (by rw [← hT.out, texts_length])
        have hT2 : Hid (∀ t ∈ T, t.size ≤ 200) := Lib.hid (by rw [← hT.out]; exact texts_le ss k)
        have hWant := Lib.hid (str_cells HO.out hTl.out)
        have hSl : (stream T).length ≤ 4040 := by have := stream_length T hT2.out; have := hTl.out; omega
        obtain ⟨W0, hW0⟩ : ∃ W0, wr = W0 := ⟨_, rfl⟩
        rw [hW0] at HO HB hWant ⊢
        clear hW0
        have hp0 : W0.heap[p]? = some (.cells #[.slice none 0 0, .bool false] 53 (0, 0)) := (HB.out.1.block p (by omega)).trans R2.out
        have hplt : p < W0.heap.size := (Array.getElem?_eq_some_iff.1 hp0).1
        have RX0 : Hid (RX W0 W0.heap.size p [] false) := Lib.hid ⟨.slice none 0 0, hp0, World.ownsRow_nil _ _ _ _⟩
        have hbw0 : Hid (Below w.heap.size w W0) := Lib.hid (B2.out.trans (HB.out.1.mono (by omega)))
        clear hp0 HO
        generalize hL0 : W0.heap.size = lo at *
        go_loopw [7, 13, 14] (fun all kk i wr => ∃ (c j : Nat) (l r : List UInt8), all = .string (Str r) ∧ kk = .int .i64 (c : Int) ∧ i = .int .i64 (j : Int) ∧ Hid (l ++ r = stream (T.drop c)) ∧ Hid (∀ t D, T.drop c = t :: D → l.length < 2 + t.size) ∧ Hid (c ≤ T.length) ∧ j + r.length ≤ 4040 ∧ Hid (RX wr lo p l false) ∧ Hid (Bx lo p W0 wr)) (fun all _ _ _ => szOf all)
        case atStart => exact ⟨0, 0, [], stream T, rfl, rfl, rfl, Lib.hid (by simp), Lib.hid (fun t D _ => by simp; omega), Lib.hid (Nat.zero_le _), by omega, RX0, Lib.hid (Bx.refl _ _ _)⟩
        clear RX0
        case round =>
          obtain ⟨c, j, l, r, rfl, rfl, rfl, hcat, hinc, hcT, hjr, HR, HX⟩ := hrel
          have hrs : (Str r).size = r.length := Str_size r
          by_cases hr0 : 0 < r.length
          · have hne : (Str r).toList.isEmpty = false := nonempty _ (by omega)
            have hrz : ((Str r).size : Int) ≤ 4040 := by omega
            have hr1 : 1 ≤ ((Str r).size : Int) := by omega
            have hj4 : (j : Int) ≤ 4040 := by omega
            have hrl := Lib.hid (Str_list r)
            generalize hQ : Str r = rb at *
            go_upto_if 74 with fail
            go_cut [15] (fun v wc => ∃ q : Nat, v = .int .i64 (q : Int) ∧ 1 ≤ q ∧ q ≤ 64 ∧ wr = wc)
            case first =>
              rcases W1.out with ⟨rfl, rfl, rfl, rfl⟩ | ⟨x1, rfl, hl1, hm1, hz1', hc1, hw1⟩
              · go_wp2_with fail
                go_meet
                exact ⟨64, rfl, by omega, by omega, rfl⟩
              · rcases Nat.eq_zero_or_pos len1 with rfl | hp1
                · go_wp2_with fail
                  go_meet
                  exact ⟨64, rfl, by omega, by omega, rfl⟩
                · obtain ⟨b1, o1, spot⟩ := x1
                  have hc0 := hc1 0 (by omega)
                  have hspot : spot = none := by simpa [Addr.add] using World.cell?_spot hc0
                  subst hspot
                  have hb1 : b1 < w.heap.size := World.block_lt_of_cell? w _ hc0
                  have hml : j % len1 < len1 := Nat.mod_lt _ hp1
                  have hcm1 := hc1 (j % len1) (by omega)
                  rw [addr_add] at hcm1
                  have hzw := bounds_u8 (hw1 (zs.getD (j % len1) 0) (by
                    rw [List.getD_eq_getElem?_getD, List.getElem?_eq_getElem (by omega)]
                    exact List.getElem_mem _))
                  have hcell : wr.cell? ⟨b1, o1 + j % len1, none⟩ = some (.int .u8 (zs.getD (j % len1) 0)) := by
                    have e1 : wr.heap[b1]? = w.heap[b1]? := (HX.out.block b1 (by have := hbw0.out.size; omega) (by omega)).trans (hbw0.out.block b1 hb1)
                    unfold World.cell? at hcm1 ⊢
                    simp only [e1]
                    exact hcm1
                  have htm : (j : Int).tmod (len1 : Int) = ((j % len1 : Nat) : Int) := by rw [Int.tmod_eq_emod_of_nonneg (by omega)]; omega
                  have hem : (j : Int) % (len1 : Int) = ((j % len1 : Nat) : Int) := by omega
                  have hmi : ((j % len1 : Nat) : Int) < (len1 : Int) := by omega
                  have hpi : 0 < (len1 : Int) := by omega
                  have hl1i : (len1 : Int) ≤ 9223372036854775807 := by unfold maxLen at hm1; omega
                  generalize zs.getD (j % len1) 0 = z at *
                  generalize j % len1 = mj at *
                  obtain ⟨q, hq, hq63⟩ : ∃ q : Nat, z % 64 = (q : Int) ∧ q ≤ 63 := ⟨(z % 64).toNat, by omega, by omega⟩
                  have hqt : z.tmod 64 = (q : Int) := by rw [Int.tmod_eq_emod_of_nonneg (by omega)]; exact hq
                  have hqi : (q : Int) ≤ 63 := by omega
                  clear hcm1 hc0 hw1 hc1 hml hzw
                  go_wp2_with fail
                  go_meet
                  exact ⟨1 + q, by go_num, by omega, by omega, rfl⟩
            case rest =>
              obtain ⟨q0, rfl, hq1, hq64, rfl⟩ := hcut
              go_upto_region 25 with fail
              go_cut [15] (fun v wc => ∃ q : Nat, v = .int .i64 (q : Int) ∧ 1 ≤ q ∧ q ≤ 64 ∧ (q : Int) ≤ (rb.size : Int) ∧ wr = wc)
              case first =>
                rcases Int.lt_or_le (rb.size : Int) (q0 : Int) with hmin | hmin
                · go_wp2_with fail
                  go_meet
                  exact ⟨rb.size, by go_num, by omega, by omega, by omega, rfl⟩
                · go_wp2_with fail
                  go_meet
                  exact ⟨q0, by go_num, by omega, by omega, by omega, rfl⟩
              case rest =>
                obtain ⟨q, rfl, hqa, hqb, hqr, rfl⟩ := hcut
                have hlow : lo ≤ wr.heap.size := by have := HX.out.size; omega
                have hpc : Hid ((rb.extract 0 q).data.toList = r.take q ∧ (rb.extract q r.length).data.toList = r.drop q) := Lib.hid (by
                  rw [extract_list, extract_list, hrl.out]
                  refine ⟨by simp, ?_⟩
                  rw [List.take_of_length_le (by rw [List.length_drop]; omega)])
                have hps : (rb.extract 0 q).size ≤ 64 := by rw [ByteArray.size_extract]; omega
                have hrs2 : (rb.extract q r.length).size = r.length - q := by rw [ByteArray.size_extract]; omega
                have hl4 : l.length ≤ 4040 := by
                  have h1 := congrArg List.length hcat.out
                  have h2 := stream_length (T.drop c) (fun t ht => hT2.out t (List.mem_of_mem_drop ht))
                  have h3 := hTl.out
                  rw [List.length_append] at h1
                  rw [List.length_drop] at h2
                  omega
                go_wp2_with fail
                generalize rb.extract 0 q = pc at *
                refine (add_goodX lo p l pc wr hlow HR.out (by omega)).mono ?_
                rw [hpc.out.1]
                rintro e w4 ⟨rfl, r4, b4⟩
                have HR4 := Lib.hid r4
                have HX4 := Lib.hid (HX.out.trans b4)
                clear r4 b4 HR HX hps
                go_wp2_with fail
                have hst : Hid (rb.extract q r.length = Str (r.drop q)) := Lib.hid (by rw [← hpc.out.2, Str_of])
                have hI1 : Hid ((l ++ r.take q) ++ r.drop q = stream (T.drop c)) := Lib.hid (by rw [List.append_assoc, List.take_append_drop]; exact hcat.out)
                have hI2 : Hid (∀ t D, T.drop c = t :: D → (l ++ r.take q).length ≤ 2 + t.size + 64) := Lib.hid (fun t D h => by
                  have := hinc.out t D h
                  rw [List.length_append, List.length_take]; omega)
                generalize rb.extract q r.length = rb2 at *
                clear hpc hcat hinc hl4
                go_loopw [13] (fun kk wr2 => ∃ (c : Nat) (l : List UInt8), kk = .int .i64 (c : Int) ∧ Hid (l ++ r.drop q = stream (T.drop c)) ∧ Hid (∀ t D, T.drop c = t :: D → l.length ≤ 2 + t.size + 64) ∧ Hid (c ≤ T.length) ∧ Hid (RX wr2 lo p l false) ∧ Hid (Bx lo p W0 wr2)) (fun kk _ => T.length - (intOf kk).toNat)
                case atStart => exact ⟨c, _, rfl, hI1, hI2, hcT, HR4, HX4⟩
                clear hI1 hI2 hcT HR4 HX4
                case round =>
                  obtain ⟨c, l, rfl, hcat, hbnd, hcT, HR, HX⟩ := hrel
                  have hlow : lo ≤ wr.heap.size := by have := HX.out.size; omega
                  by_cases hl2 : l.length < 2
                  · go_wp2_with fail
                    refine (next_shortX lo p l wr HR.out hl2).mono ?_
                    rintro e w5 ⟨rfl, rfl⟩
                    go_wp2_with fail
                    go_roundw
                    case rel => exact ⟨c, j + 1, l, r.drop q, by rw [hst.out], rfl, by go_num, hcat, Lib.hid (fun t D _ => by omega), hcT, by rw [List.length_drop]; omega, HR, HX⟩
                    case measure => simp only [szOf]; omega
                  · obtain ⟨t, D', hdrop, htk⟩ := stream_head l (r.drop q) (T.drop c) hcat.out (by omega)
                    have hmem : t ∈ T := List.mem_of_mem_drop (by rw [hdrop]; exact List.mem_cons_self ..)
                    have ht200 := hT2.out t hmem
                    have ht2i : (t.size : Int) ≤ 200 := by omega
                    have hv : Hid (M.val (l.take 2) = t.size) := Lib.hid (by rw [htk, M.val_be]; exact Nat.mod_eq_of_lt (by omega))
                    have hb2 := hbnd.out t D' hdrop
                    by_cases hfull : l.length < 2 + t.size
                    · go_wp2_with fail
                      refine (next_waitX lo p l t.size wr HR.out (by omega) (by omega) hv ht2i (by omega)).mono ?_
                      rintro e w5 ⟨rfl, r5, b5⟩
                      have HR5 := Lib.hid r5
                      have HX5 := Lib.hid (HX.out.trans (Bx.of b5 hlow))
                      clear r5 b5 HR HX
                      go_wp2_with fail
                      go_roundw
                      case rel => exact ⟨c, j + 1, l, r.drop q, by rw [hst.out], rfl, by go_num, hcat, Lib.hid (fun t1 D1 h1 => by rw [hdrop] at h1; injection h1 with h1 _; subst h1; exact hfull), hcT, by rw [List.length_drop]; omega, HR5, HX5⟩
                      case measure => simp only [szOf]; omega
                    · have hcat2 := hcat.out
                      rw [hdrop] at hcat2
                      obtain ⟨htext, hnext⟩ := stream_tell l (r.drop q) t D' hcat2 (by omega)
                      have hc1 : c < T.length := by
                        rcases Nat.lt_or_ge c T.length with h | h
                        · exact h
                        · rw [List.drop_eq_nil_of_le h] at hdrop; cases hdrop
                      have hTc : T[c] = t ∧ T.drop (c + 1) = D' := by
                        rw [List.drop_eq_getElem_cons hc1] at hdrop
                        injection hdrop with h1 h2
                        exact ⟨h1, h2⟩
                      have hnx : Hid (l.drop (2 + t.size) ++ r.drop q = stream (T.drop (c + 1))) := Lib.hid (by rw [hTc.2]; exact hnext)
                      have hnb : Hid (∀ t1 D1, T.drop (c + 1) = t1 :: D1 → (l.drop (2 + t.size)).length ≤ 2 + t1.size + 64) := Lib.hid (fun t1 D1 _ => by rw [List.length_drop]; omega)
                      have hnc : Hid (c + 1 ≤ T.length) := Lib.hid (by omega)
                      have hck : (c : Int) < (k : Int) := by have := hTl.out; omega
                      go_wp2_with fail
                      refine (next_tellX lo p l t.size t wr (Lib.hid htext) hlow HR.out (by omega) (by omega) (by omega) hv ht2i).mono ?_
                      rintro e w5 ⟨rfl, r5, b5⟩
                      have HR5 := Lib.hid r5
                      have HX5 := Lib.hid (HX.out.trans b5)
                      clear r5 b5 HR HX hcat hcat2 hnext htext hbnd hcT
                      obtain ⟨gw, hva, hg0, hg1, ⟨cs, hgc⟩, hgcell⟩ : ∃ g, va = some ⟨g, 0, none⟩ ∧ B0 ≤ g ∧ g < lo ∧ (∃ cs, W0.heap[g]? = some (.cells cs 9 (0, 0))) ∧ ∀ j (hj : j < T.length), W0.cell? ⟨g, j, none⟩ = some (.string T[j]) := by
                        rcases hWant.out with h | h
                        · subst h; simp at hc1
                        · exact h
                      have hwc : w5.cell? ⟨gw, c, none⟩ = some (.string t) := by
                        have h1 := hgcell c hc1
                        rw [hTc.1] at h1
                        have e1 : w5.heap[gw]? = W0.heap[gw]? := HX5.out.block gw (by omega) (by omega)
                        unfold World.cell? at h1 ⊢
                        simp only [e1]
                        exact h1
                      clear hgc hgcell hTc hdrop
                      subst hva
                      go_wp2_with fail
                      go_roundw
                      case rel => exact ⟨c + 1, _, by go_num, hnx, hnb, hnc, HR5, HX5⟩
                      case measure => simp [intOf]; omega
          · have hr : r = [] := List.eq_nil_of_length_eq_zero (by omega)
            subst hr
            have hdn : T.drop c = [] := by
              cases hd : T.drop c with
              | nil => rfl
              | cons t D =>
                have h1 := hinc.out t D hd
                have h2 := hcat.out
                rw [hd, stream_cons, List.append_nil] at h2
                have h3 := congrArg List.length h2
                rw [List.length_append, List.length_append, M.be_length] at h3
                simp at h3
                omega
            have hck : c = k := by
              have h1 := List.drop_eq_nil_iff.1 hdn
              have h2 := hcT.out
              have h3 := hTl.out
              omega
            have hl0 : l = [] := by
              have h2 := hcat.out
              rw [hdn, List.append_nil] at h2
              exact h2
            subst hl0
            subst hck
            have HRf := HR
            have FBf : Hid (Below w.heap.size w wr) := Lib.hid (hbw0.out.trans (HX.out.below (by have := hbw0.out.size; omega) hp))
            have hsE : (Str []) = (⟨#[]⟩ : ByteArray) := rfl
            rw [hsE]
            clear hcat hinc hcT HR HX hrs hdn hr0 hsE
            go_wp2_with fail
            refine (rest_anyX lo p [] false wr HRf.out).mono ?_
            rintro e w6 ⟨rfl, rfl⟩
            go_wp2_with fail
            refine (bad_anyX lo p [] false wr HRf.out).mono ?_
            rintro e w6 ⟨rfl, rfl⟩
            go_wp2_with fail
            go_ret
            refine ⟨ret_true ?_, FBf.out⟩
            first | rfl | (simp; done) | (simp; omega)
set_option maxHeartbeats 1600000 in
set_option maxRecDepth 20000 in
theorem frameCuts_zero (a0 : Option Addr) (cap : Nat) (w : World) (a1 : Option Addr) (len1 cap1 : Nat) :
    Calls Try.prog 4 #[.slice a0 0 cap, .slice a1 len1 cap1] w fun e w' => e = .returned (.bool true) ∧ Below w.heap.size w w' := by
  go_enter Try.func4, Try.ntmps4
  try simp only [List.append_eq, List.cons_append, List.nil_append]
  go_wp2_with fail
  refine (examples_any _).mono ?_
  rintro e w1 ⟨rfl, b1⟩
  go_wp2_with fail
  refine (new_any _).mono ?_
  rintro e w2 ⟨rfl, r2, b2⟩
  have B2 := Lib.hid (chain b1 b2)
  have R2 := Lib.hid r2
  clear r2 b1 b2
  generalize w1.heap.size = p at *
  go_wp2_with fail
  go_loopw [7, 8, 9] (fun all v i wr => all = .string ⟨#[]⟩ ∧ v = .slice none 0 0 ∧ i = .int .i64 0 ∧ wr = w2) (fun _ _ _ _ => 0)
  case atStart => exact ⟨rfl, rfl, rfl, rfl⟩
  case round =>
    obtain ⟨rfl, rfl, rfl, rfl⟩ := hrel
    go_wp2_with fail
    go_loopw [7, 13, 14] (fun all kk i wr2 => all = .string ⟨#[]⟩ ∧ kk = .int .i64 0 ∧ i = .int .i64 0 ∧ wr2 = wr) (fun _ _ _ _ => 0)
    case atStart => exact ⟨rfl, rfl, rfl, rfl⟩
    case round =>
      obtain ⟨rfl, rfl, rfl, rfl⟩ := hrel
      go_wp2_with fail
      refine (rest_any p p [] false _ R2.out).mono ?_
      rintro e w6 ⟨rfl, rfl⟩
      go_wp2_with fail
      refine (bad_any p p [] false _ R2.out).mono ?_
      rintro e w6 ⟨rfl, rfl⟩
      go_wp2_with fail
      go_ret
      refine ⟨ret_true ?_, B2.out⟩
      first | rfl | (simp; done) | (simp; omega)
theorem frameCuts_law (a0 : Option Addr) (len0 cap0 : Nat) (ss0 : List ByteArray) (a1 : Option Addr) (len1 cap1 : Nat) (zs1 : List Int) (w : World) (w0 : IsStrs w a0 len0 cap0 ss0) (w1 : IsInts .u8 w a1 len1 cap1 zs1) :
    Calls Try.prog 4 #[.slice a0 len0 cap0, .slice a1 len1 cap1] w fun e w' => e = .returned (.bool true) ∧ Below w.heap.size w w' := by
  rcases w0 with ⟨rfl, rfl, rfl, rfl⟩ | ⟨x, rfl, hl, hm, hz, hc, hsz⟩
  · exact frameCuts_zero _ _ _ _ _ _
  · rcases Nat.eq_zero_or_pos len0 with rfl | h0
    · exact frameCuts_zero _ _ _ _ _ _
    · obtain ⟨b, off, spot⟩ := x
      have hc0 := hc 0 (by omega)
      have hspot : spot = none := by simpa [Addr.add] using World.cell?_spot hc0
      subst hspot
      have hlt := World.block_lt_of_cell? w _ hc0
      refine frameCuts_walk b off len0 cap0 (min len0 20) ss0 w a1 len1 cap1 zs1 hlt (Lib.hid ?_) hl (by unfold maxLen at hm; omega) (by omega) (by omega) (by omega) (Lib.hid ?_) w1 _ (Lib.hid rfl)
      · intro i hi
        have := hc i (by omega)
        rwa [addr_add] at this
      · intro i
        rcases Nat.lt_or_ge i ss0.length with h | h
        · have := hsz (ss0.getD i ByteArray.empty) (by rw [List.getD_eq_getElem?_getD, List.getElem?_eq_getElem h]; exact List.getElem_mem _)
          unfold maxLen at this
          exact this
        · rw [List.getD_eq_getElem?_getD, List.getElem?_eq_none h]
          decide
end Go.Proofs.Ytnbljpdfmomjjaa
