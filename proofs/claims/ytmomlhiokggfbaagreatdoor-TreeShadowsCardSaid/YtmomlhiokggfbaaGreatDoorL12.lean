/-
 ShD, DiskC, DiskFacts, DiskL, ShE, ShHd, TrS, TrL, NodeD, NodeRa, LastOp.
-/
import Derived.Test.YtmomlhiokggfbaaGreatDoorL09
import Derived.Test.YtmomlhiokggfbaaGreatDoorL10
import Derived.Test.YtmomlhiokggfbaaGreatDoorL11
import Derived.Test.YtmomlhiokggfbaaGreatDoorL08
import Derived.Test.YtmomlhiokggfbaaGreatDoorL03
import Derived.Test.YtmomlhiokggfbaaGreatDoorL07
import Derived.Test.YtmomlhiokggfbaaGreatDoorL04
import Derived.Test.YtmomlhiokggfbaaGreatDoorL01
import Derived.OrdersHeld
import Derived.RegionTactic
import Derived.KernelRfl
namespace Go.Proofs.YtmomlhiokggfbaaGreatDoor
open Go.RowKit
set_option maxRecDepth 20000
set_option maxHeartbeats 12800000
set_option linter.unusedVariables false
set_option linter.unusedSimpArgs false
theorem few_of {l : List Int} (hn : l.Nodup) (hb : ∀ x ∈ l, 2 ≤ x ∧ x < 640) : l.length ≤ 640 := by
 have h1 : (l.map Int.toNat).Nodup := by
  refine List.pairwise_map.2 (hn.imp_of_mem fun {a b} ha hb' hne e => ?_);have h3 := hb a ha;have h4 := hb b hb';exact hne (by omega)
 have h2 := nodup_le 640 (l.map Int.toNat) h1 (fun x hx => by
  obtain ⟨y, hy, rfl⟩ := List.mem_map.1 hx;have := hb y hy;omega)
 simpa using h2
def usedL (st : ShS) (size : Nat) : Nat → Nat
 | 0 => 0
 | k + 1 => usedL st size k + (if 2 ≤ k ∧ hasB st.h.used (k : Int) = true then 1 else 0)
def usedN (st : ShS) (size : Nat) : Nat := usedL st size size
theorem usedL_le (st : ShS) (size k : Nat) : usedL st size k ≤ k := by
 induction k with
 | zero => exact Nat.le_refl _
 | succ k ih => unfold usedL; split <;> omega
theorem usedL_2 (st : ShS) (size : Nat) : usedL st size 2 = 0 := by
 unfold usedL usedL usedL;simp
theorem own_keptB {w w' : World} {e : TypeId} {v : Value} {n : Nat} {xs : List Value} (h : w.ownsRow 0 e 1 v n xs) (hb : Below w.heap.size w w') : w'.ownsRow 0 e 1 v n xs := by
 refine ⟨h.1, ?_⟩
 rcases h.2 with hx | ⟨g, cap, cur, hv, hbg, hh, r⟩
 ·exact .inl hx
 ·exact .inr ⟨g, cap, cur, hv, hbg, (hb.block g (zl hh)).trans hh, r⟩
theorem int_info : ∃ i, Tryz.prog.info? 3 = some i ∧ i.zero = some (.int .i64 0) ∧ i.size = 1 ∧ i.bytes = 8 := by
 have : (Tryz.prog.info? 3).map (fun i => (i.zero, i.size, i.bytes)) = some (some (.int .i64 0), 1, 8) := by kernel_rfl
 cases hq : Tryz.prog.info? 3 with
 | none => rw [hq] at this; cases this
 | some i =>
  rw [hq] at this;simp only [Option.map_some, Option.some.injEq, Prod.mk.injEq] at this;exact ⟨i, rfl, this.1, this.2.1, this.2.2⟩
theorem own_grow (w wr : World) (v : Value) (n : Nat) (xs : List Value) (h : wr.ownsRow 0 3 1 v n xs) (hv : ∀ k, v.ownBlock = some k → w.heap.size ≤ k) (hb : Below w.heap.size w wr) (x : Int) (hn : n ≤ 100000) :
  ∃ v' w', (Builtin.append_ #[22, 22] 22 #[v, .slice (some ⟨wr.heap.size, 0, none⟩) 1 1]).run Tryz.prog (wr.alloc (.cells #[.int .i64 x] 3)) = .ok v' w' ∧ w'.ownsRow 0 3 1 v' (n + 1) (xs ++ [.int .i64 x]) ∧ (∀ k, v'.ownBlock = some k → w.heap.size ≤ k) ∧ Below w.heap.size w w' := by
 obtain ⟨i, hinfo, hz0, hz1, hz2⟩ := int_info;have hu : (wr.alloc (.cells #[.int .i64 x] 3)).cell? ⟨wr.heap.size, 0, none⟩ = some (.int .i64 x) := by rw [World.cell?_alloc_new]; rfl
 obtain ⟨v', w5, k, hap, hown, hgrow, hkb, hkc⟩ := append_one Tryz.prog (wr.alloc (.cells #[.int .i64 x] 3)) 22 22 3 i _ Tryz.underlying22 hinfo hz0 hz1 hz2 rfl v n _ (own_keptB h (Br.alloc (Nat.le_refl _) _)) wr.heap.size _ hu rfl (by omega);have hbs := hb.size;refine ⟨v', w5, hap, hown, fun q hq => ?_, ?_⟩
 ·rw [hkb] at hq
  injection hq with hq;subst hq
  rcases hkc with h1 | h1
  ·exact hv _ h1
  ·have : (wr.alloc (.cells #[.int .i64 x] 3)).heap.size = wr.heap.size + 1 := by simp
   omega
 ·have h1 := Frm.grown (F := fun _ => False) (a := w) (w := wr.alloc (.cells #[.int .i64 x] 3)) (w' := w5) ((Frm.of_below hb).alloc _) hgrow (fun k hk => .inr (hv k hk))
  exact h1.below (fun i hi => hi.elim) (Nat.le_refl _)
theorem usedlist_is (w : World) (s d : Nat) (dk : DkS) (st : ShS) (FD F : Nat → Prop) (hd : Dk w d dk FD) (h : Sto w s d st F) :
  Calls Tryz.prog 27 #[.pointer (some ⟨s, 0, none⟩)] w fun e w' => (∃ a cap, e = .returned (.slice a (usedN st dk.S.length) cap)) ∧ Below w.heap.size w w' := by
 have hz := hd.ok.few;have h8 := hd.ok.least;have SZ := Hd (fun w' (hb : Below w.heap.size w w') => stosize_is w' s d st F (h.below hb) dk FD (hd.below hb));have US := Hd (fun (k : Nat) (hk : k ≤ 640) w' (hb : Below w.heap.size w w') => used_is w' s d st F (h.below hb) (k : Int) (by omega));have UL := Hd (usedL_le st dk.S.length);have U2 := Hd (usedL_2 st dk.S.length);have UN : Hid (usedN st dk.S.length = usedL st dk.S.length dk.S.length) := Hd rfl
 have UT := Hd (fun k => show usedL st dk.S.length (k + 1) = usedL st dk.S.length k + (if 2 ≤ k ∧ hasB st.h.used (k : Int) = true then 1 else 0) from rfl);clear hd h;generalize dk.S.length = sz at *;go_enter Tryz.func27, Tryz.ntmps27;go_wp2_with fail
 go_loopw [3, 4] (fun v i wr => ∃ (k n : Nat) (xs : List Value), 2 ≤ k ∧ k ≤ sz ∧ i = .int .i64 (k : Int) ∧ usedL st sz k = n ∧ wr.ownsRow 0 3 1 v n xs ∧ (∀ q, v.ownBlock = some q → w.heap.size ≤ q) ∧ Below w.heap.size w wr) (fun _ i _ => 641 - (intOf i).toNat)
 case atStart => exact ⟨2, 0, [], Nat.le_refl _, by omega, rfl, U2.out, World.ownsRow_nil _ _ _ _, (fun q hq => by cases hq), Br⟩
 case round =>
  obtain ⟨k, n, xs, hk2, hkz, rfl, hul, hown, hvb, hb⟩ := hrel;have HB := Hd hb;have HO := Hd hown;have HV := Hd hvb;have S1 := Hd (SZ.out wr hb);have U1 := Hd (US.out k (by omega) wr hb);have ULK := UL.out k;have UTK := Hd (UT.out k);obtain ⟨va, vc, hvv, -, -, -⟩ := Rd.own hown;have hxl : xs.length = n := by have := hown.1; omega
  rw [hxl] at hvv;subst hvv;clear hb hown hvb
  by_cases hlt : k < sz
  ·have hkz2 : (k : Int) < (sz : Int) := by omega
   cases hu : hasB st.h.used (k : Int)
   ·rw [hu] at U1
    have NXT : Hid (usedL st sz (k + 1) = n) := Hd (by rw [UTK.out, hu, if_neg (by simp), Nat.add_zero]; exact hul);go_wp2_with fail;refine S1.out.mono ?_;rintro e w1 ⟨rfl, rfl⟩;go_wp2_with fail;refine U1.out.mono ?_;rintro e w1 ⟨rfl, rfl⟩;go_wp2_with fail;go_roundw
    case rel => exact ⟨k + 1, n, xs, by omega, by omega, by go_num, NXT.out, HO.out, HV.out, HB.out⟩
    case measure => simp [intOf]; omega
   ·rw [hu] at U1
    have NXT : Hid (usedL st sz (k + 1) = n + 1) := Hd (by rw [UTK.out, hu, if_pos ⟨hk2, rfl⟩, hul]);obtain ⟨v', w5, hap, ho5, hv5, hb5⟩ := own_grow w wr _ n xs HO.out HV.out HB.out (k : Int) (by omega);have O5 := Hd ho5;have V5 := Hd hv5;have B5 := Hd hb5;clear ho5 hv5 hb5;go_wp2_with fail;refine S1.out.mono ?_;rintro e w1 ⟨rfl, rfl⟩;go_wp2_with fail;refine U1.out.mono ?_;rintro e w1 ⟨rfl, rfl⟩
    go_wp2_with (at_builtin; refine append_run rfl (.tmp 14) (.tmp 16) 22 rfl _ _ _ rfl rfl hap ?_)
    go_roundw
    case rel => exact ⟨k + 1, n + 1, _, by omega, by omega, by go_num, NXT.out, O5.out, V5.out, B5.out⟩
    case measure => simp [intOf]; omega
  ·obtain rfl : k = sz := by omega
   have hkz2 : ¬ (k : Int) < (k : Int) := by omega
   go_wp2_with fail;refine S1.out.mono ?_;rintro e w1 ⟨rfl, rfl⟩;go_wp2_with fail;try rw [Exit.noGoto_ret]
   go_ret;exact ⟨⟨va, vc, by rw [UN.out, hul]; rfl⟩, HB.out⟩
theorem setb_bit : ∀ (c : Fin 256) (k j : Fin 8) (on : Bool), (setb c.val k.val on).testBit j.val = if k.val = j.val then on else c.val.testBit j.val := by decide +kernel
theorem u8_setb (c : UInt8) (k : Nat) (hk : k < 8) (on : Bool) : (UInt8.ofNat (setb c.toNat k on)).toNat = setb c.toNat k on := by
 have := setb_lt ⟨c.toNat, UInt8.toNat_lt c⟩ ⟨k, hk⟩ on;rw [UInt8.toNat_ofNat', Nat.mod_eq_of_lt this]
theorem withL_length (l : List UInt8) (i : Nat) (on : Bool) : (withL l i on).length = l.length := by
 unfold withL; split <;> simp
theorem withB_size (b : ByteArray) (i : Int) (on : Bool) : (withB b i on).size = b.size := by
 unfold withB
 split
 ·rw [Str_size, withL_length]; simp
 ·rfl
theorem bit_withL (l : List UInt8) (i j : Nat) (on : Bool) (h : i / 8 < l.length) : bitL (withL l i on) j = if i = j then on else bitL l j := by
 unfold bitL
 by_cases hj : j / 8 < l.length
 ·rw [dif_pos (by rw [withL_length]; exact hj), dif_pos hj]
  have hk : i % 8 < 8 := by omega
  have hk2 : j % 8 < 8 := by omega
  simp only [withL, dif_pos h];rw [List.getElem_set]
  by_cases e : i / 8 = j / 8
  ·rw [if_pos e, u8_setb _ _ hk]
   have := setb_bit ⟨(l[i / 8]).toNat, UInt8.toNat_lt _⟩ ⟨i % 8, hk⟩ ⟨j % 8, hk2⟩ on;simp only at this;rw [this]
   by_cases e2 : i % 8 = j % 8
   ·rw [if_pos e2, if_pos (by omega)]
   ·rw [if_neg e2, if_neg (by omega)]
    simp only [e]
  ·rw [if_neg e, if_neg (by omega)]
 ·rw [dif_neg (by rw [withL_length]; exact hj), dif_neg hj, if_neg (by omega)]
theorem room_iff (b : ByteArray) (i : Int) : roomB b i = true ↔ (0 ≤ i ∧ i < 8 * (b.size : Int)) := by unfold roomB; simp
theorem has_with (b : ByteArray) (i j : Int) (on : Bool) (h : roomB b i = true) : hasB (withB b i on) j = if j = i then on else hasB b j := by
 rw [room_iff] at h;obtain ⟨n, rfl⟩ := Int.eq_ofNat_of_zero_le h.1;have hr : roomB b (n : Int) = true := (room_iff b n).2 h;have hl : n / 8 < b.data.toList.length := by simp; omega
 unfold hasB withB;rw [hr, if_pos rfl, Str_list, Int.toNat_natCast, bit_withL _ _ _ _ hl]
 by_cases h0 : 0 ≤ j
 ·obtain ⟨m, rfl⟩ := Int.eq_ofNat_of_zero_le h0
  rw [Int.toNat_natCast]
  by_cases e : n = m
  ·subst e; simp
  ·rw [if_neg e, if_neg (by omega)]
 ·have hne : ¬ j = (n : Int) := by omega
  rw [if_neg hne];simp [h0]
theorem byte_ext (a b : UInt8) (h : ∀ k, k < 8 → a.toNat.testBit k = b.toNat.testBit k) : a = b := by
 apply UInt8.toNat_inj.1;apply Nat.eq_of_testBit_eq;intro k
 by_cases hk : k < 8
 ·exact h k hk
 ·have h1 : ∀ c : UInt8, c.toNat.testBit k = false := fun c => by
   apply Nat.testBit_lt_two_pow;have := UInt8.toNat_lt c;have h2 : 2 ^ 8 ≤ 2 ^ k := Nat.pow_le_pow_right (by decide) (by omega);omega
  rw [h1, h1]
theorem bits_ext {a b : ByteArray} (hs : a.size = b.size) (h : ∀ i : Nat, hasB a (i : Int) = hasB b (i : Int)) : a = b := by
 apply eq_of_data;apply List.ext_getElem
 ·rw [size_list, size_list, hs]
 ·intro j h1 h2
  apply byte_ext;intro k hk;have hi := h (8 * j + k);have e1 : (8 * j + k) / 8 = j := by omega
  have e2 : (8 * j + k) % 8 = k := by omega
  have h0 : decide ((0 : Int) ≤ ((8 * j + k : Nat) : Int)) = true := decide_eq_true (by omega);unfold hasB at hi;rw [h0, Bool.true_and, Bool.true_and] at hi;simp only [Int.toNat_natCast, bitL, e1, e2, h1, h2, dif_pos] at hi;exact hi
def withAll (u : ByteArray) (L : List Int) (on : Bool) : ByteArray := L.foldl (fun u n => withB u n on) u
theorem withAll_size (L : List Int) (on : Bool) : ∀ u, (withAll u L on).size = u.size := by
 induction L with
 | nil => intro u; rfl
 | cons n L ih => intro u; show (withAll (withB u n on) L on).size = _; rw [ih, withB_size]
theorem room_size {a b : ByteArray} (h : a.size = b.size) (i : Int) : roomB a i = roomB b i := by unfold roomB; rw [h]
theorem has_withAll (L : List Int) (on : Bool) (i : Int) : ∀ u, (∀ x ∈ L, roomB u x = true) → hasB (withAll u L on) i = if i ∈ L then on else hasB u i := by
 induction L with
 | nil => intro u _; rw [if_neg (by simp)]; rfl
 | cons n L ih =>
  intro u hr
  show hasB (withAll (withB u n on) L on) i = _
  rw [ih _ (fun x hx => by rw [room_size (withB_size u n on)]; exact hr x (by simp [hx])), has_with u n i on (hr n (by simp))]
  by_cases h1 : i ∈ L
  ·rw [if_pos h1, if_pos (by simp [h1])]
  ·rw [if_neg h1]
   by_cases h2 : i = n
   ·rw [if_pos h2, if_pos (by simp [h2])]
   ·rw [if_neg h2, if_neg (by simp [h1, h2])]
def leftLen (w : World) (r m : Nat) : Nat :=
 match w.heap[m]?, w.heap[r]? with
 | some (.map es _), some (.mapIter _ _ seen _) => (leftOf es seen).size
 | _, _ => 0
theorem RangeS.len {w : World} {r m : Nat} {L left : List Int} (h : RangeS w r m L left) : leftLen w r m = left.length := by
 obtain ⟨es, c, s, sn, l, h1, h2, h3, h4, h5, h6, h6', h7⟩ := h;unfold leftLen;rw [h1, h4];have := congrArg List.length h7
 simpa using this
theorem filter_less {l : List Int} {n : Int} (h : n ∈ l) : (l.filter fun x => decide (x ≠ n)).length < l.length := by
 induction l with
 | nil => cases h
 | cons a l ih =>
  by_cases e : a = n
  ·rw [List.filter_cons_of_neg (by simp [e])]
   have := List.length_filter_le (fun x => decide (x ≠ n)) l;simp only [List.length_cons]; omega
  ·rw [List.filter_cons_of_pos (by simpa using e)]
   have h2 : n ∈ l := by
    rcases List.mem_cons.1 h with h3 | h3
    ·exact absurd h3.symm e
    ·exact h3
   have := ih h2;simp only [List.length_cons]; omega
def nextU (st : ShS) : ByteArray := withAll (withAll st.h.used st.fresh true) st.given false
def nextH (st : ShS) (root : Int) : HdS := ⟨st.h.gen + 1, root, nextU st⟩
def Part (u base : ByteArray) (L left : List Int) (on : Bool) : Prop := u.size = base.size ∧ ∀ i : Int, hasB u i = if i ∈ L ∧ i ∉ left then on else hasB base i
theorem Part.start (base : ByteArray) (L : List Int) (on : Bool) : Part base base L L on := ⟨rfl, fun i => by rw [if_neg (by simp)]⟩
theorem Part.step {u base : ByteArray} {L left : List Int} {on : Bool} (h : Part u base L left on) (n : Int) (hn : n ∈ left) (hL : n ∈ L) (hr : roomB base n = true) : Part (withB u n on) base L (left.filter fun x => decide (x ≠ n)) on := by
 refine ⟨(withB_size u n on).trans h.1, fun i => ?_⟩;rw [has_with u n i on (by rw [room_size h.1]; exact hr)]
 by_cases e : i = n
 ·subst e
  rw [if_pos rfl, if_pos ⟨hL, by simp⟩]
 ·rw [if_neg e, h.2 i]
  by_cases h2 : i ∈ L ∧ i ∉ left
  ·rw [if_pos h2, if_pos ⟨h2.1, fun hx => h2.2 (List.mem_filter.1 hx).1⟩]
  ·rw [if_neg h2, if_neg (fun hx => h2 ⟨hx.1, fun hl => hx.2 (List.mem_filter.2 ⟨hl, by simpa using e⟩)⟩)]
theorem Part.done {u base : ByteArray} {L : List Int} {on : Bool} (h : Part u base L [] on) (hr : ∀ x ∈ L, roomB base x = true) : u = withAll base L on := by
 refine bits_ext (h.1.trans (withAll_size L on base).symm) fun i => ?_
 rw [h.2, has_withAll L on _ base hr]
 by_cases e : ((i : Nat) : Int) ∈ L
 ·rw [if_pos ⟨e, by simp⟩, if_pos e]
 ·rw [if_neg (fun hx => e hx.1), if_neg e]
theorem room80 {b : ByteArray} (h : b.size = 80) {x : Int} (h1 : 2 ≤ x) (h2 : x < 640) : roomB b x = true := (room_iff b x).2 ⟨by omega, by rw [h]; omega⟩
theorem next_is (w : World) (s d : Nat) (st : ShS) (F : Nat → Prop) (h : Sto w s d st F) (root : Int) (hg : st.h.gen ≤ 281474976710654) :
  Calls Tryz.prog 59 #[.pointer (some ⟨s, 0, none⟩), .int .i64 root] w fun e w' => e = .returned (hdV (nextH st root)) ∧ Below w.heap.size w w' := by
 obtain ⟨f0, g0, hi0, he0⟩ := h;have W1 : Hid (∀ n u w', n < 9223372036854775808 → Calls Tryz.prog 96 #[.string u, .int .i64 n, .bool true] w' fun e w'' => e = .returned (.string (withB u n true)) ∧ Below w'.heap.size w' w'') := Hd (fun n u w' hn => with_any u n true w' hn);have W2 : Hid (∀ n u w', n < 9223372036854775808 → Calls Tryz.prog 96 #[.string u, .int .i64 n, .bool false] w' fun e w'' => e = .returned (.string (withB u n false)) ∧ Below w'.heap.size w' w'') := Hd (fun n u w' hn => with_any u n false w' hn)
 have CE := Hd (fun w' (hb : Below w.heap.size w w') => (hi0.kept (fun k hk => hb.block k (hi0.lt k hk))).cells);have FF := Hd (fun w' (hb : Below w.heap.size w w') => (hi0.kept (fun k hk => hb.block k (hi0.lt k hk))).fr);have GG := Hd (fun w' (hb : Below w.heap.size w w') => (hi0.kept (fun k hk => hb.block k (hi0.lt k hk))).gv);have hfl := hi0.fr.lt;have hgl := hi0.gv.lt;have FB := Hd hi0.fb;have GB := Hd hi0.gb;have hu80 := hi0.ok.u;have hg0 := hi0.ok.g0;have RF := Hd (fun x (hx : x ∈ st.fresh) => room80 hu80 (hi0.fb x hx).1 (hi0.fb x hx).2)
 have RG := Hd (fun x (hx : x ∈ st.given) => room80 ((withAll_size st.fresh true st.h.used).trans hu80) (hi0.gb x hx).1 (hi0.gb x hx).2);have DF := Hd (fun u (hp : Part u st.h.used st.fresh [] true) => hp.done RF.out);have DG := Hd (fun u (hp : Part u (withAll st.h.used st.fresh true) st.given [] false) => hp.done RG.out);have X0 := Hd (han w (.cells #[.int .i64 0, .int .i64 0, .string ⟨#[]⟩] 113));have B0 := Hd (below_made w (.cells #[.int .i64 0, .int .i64 0, .string ⟨#[]⟩] 113))
 obtain ⟨wa, hwa⟩ : ∃ wa, w.alloc (.cells #[.int .i64 0, .int .i64 0, .string ⟨#[]⟩] 113) = wa := ⟨_, rfl⟩
 have HNX : Hid (nextH st root = ⟨st.h.gen + 1, root, nextU st⟩) := Hd rfl;have HNU : Hid (nextU st = withAll (withAll st.h.used st.fresh true) st.given false) := Hd rfl;have hgw : IntKind.i64.wrap (st.h.gen + 1) = st.h.gen + 1 := by rw [IntKind.wrap_i64]; omega
 rw [hwa] at X0 B0;obtain ⟨w1, hrun1, hr1, b1, sz1⟩ := rangeS (P := Tryz.prog) Tryz.underlying115 (FF.out wa B0.out);have R1 := Hd hr1;have B1 := Hd (chain B0.out b1);have X1 := Hd (kept X0.out b1);obtain ⟨x0, x1, x2, x3, x4, x5, x6⟩ := CE.out wa B0.out;have hsa : wa.heap.size = w.heap.size + 1 := by rw [← hwa]; simp
 obtain ⟨r, hrr⟩ : ∃ r, wa.heap.size = r := ⟨_, rfl⟩
 have HRR : Hid (w.heap.size < r ∧ r < w1.heap.size) := Hd (by omega);rw [hrr] at hrun1 R1;have HWA := Hd hwa;unfold hdV;clear hi0 he0 hr1 b1 sz1 hwa hsa hrr hu80;go_enter Tryz.func59, Tryz.ntmps59;go_upto_region 1 with fail
 rw [HWA.out];go_wp2_with fail;clear x0 x1 x2 x3 x4 x5 x6 hrun1
 go_loopw [5] (fun u wr => ∃ left ub, u = .string ub ∧ RangeS wr r f0 st.fresh left ∧ Part ub st.h.used st.fresh left true ∧ Below w.heap.size w wr ∧ wr.heap[w.heap.size]? = some (.cells #[.int .i64 0, .int .i64 0, .string ⟨#[]⟩] 113)) (fun _ wr => leftLen wr r f0)
 case atStart => exact ⟨_, _, rfl, R1.out, Part.start _ _ _, B1.out, X1.out⟩
 case round =>
  obtain ⟨left, ub, rfl, hR, hP, hb, hX⟩ := hrel;have hsub := hR.sub.1;have hln := Hd hR.len;have PP := Hd hP;have BB := Hd hb;have XX := Hd hX
  rcases nextS (P := Tryz.prog) hR 0 with ⟨rfl, hnx⟩ | ⟨n, hn, w2, hnx, hR2, hf2, hs2, hen⟩
  ·have hue := DF.out ub hP
   subst hue;obtain ⟨w3, hrun2, hr2, b2, sz2⟩ := rangeS (P := Tryz.prog) Tryz.underlying115 (GG.out wr hb);obtain ⟨x0, x1, x2, x3, x4, x5, x6⟩ := CE.out wr hb;have R2 := Hd hr2;have B2 := Hd (chain hb b2);have X2 := Hd (kept hX b2);have hlw : w.heap.size < wr.heap.size := (zl hX);obtain ⟨q, hqq⟩ : ∃ q, wr.heap.size = q := ⟨_, rfl⟩
   have HQQ : Hid (w.heap.size < q) := Hd (by omega);rw [hqq] at hrun2 R2;clear hR hP hb hX hr2 b2 sz2 hqq PP BB XX hsub hln hlw;go_wp2_with fail;clear x0 x1 x2 x3 x4 x5 x6 hrun2 hnx
   go_loopw [5] (fun u wr => ∃ left ub, u = .string ub ∧ RangeS wr q g0 st.given left ∧ Part ub (withAll st.h.used st.fresh true) st.given left false ∧ Below w.heap.size w wr ∧ wr.heap[w.heap.size]? = some (.cells #[.int .i64 0, .int .i64 0, .string ⟨#[]⟩] 113)) (fun _ wr => leftLen wr q g0)
   case atStart => exact ⟨_, _, rfl, R2.out, Part.start _ _ _, B2.out, X2.out⟩
   case round =>
    obtain ⟨left, ub, rfl, hR, hP, hb, hX⟩ := hrel;have hsub := hR.sub.1;have hln := Hd hR.len;have PP := Hd hP;have BB := Hd hb;have XX := Hd hX
    rcases nextS (P := Tryz.prog) hR 0 with ⟨rfl, hnx⟩ | ⟨n, hn, w4, hnx, hR4, hf4, hs4, hen⟩
    ·have hue := DG.out ub hP
     rw [← HNU.out] at hue;subst hue;obtain ⟨x0, x1, x2, x3, x4, x5, x6⟩ := CE.out _ hb;have y0 := cl hX 0 rfl;have y1 := cl hX 1 rfl;have y2 := cl hX 2 rfl;have f0' := ufb hX 0;have f1' := ufb hX 1;have f2' := ufb hX 2
     have XR : (((wr.setCell ⟨w.heap.size, 0, none⟩ (.int .i64 (st.h.gen + 1))).setCell ⟨w.heap.size, 1, none⟩ (.int .i64 root)).setCell ⟨w.heap.size, 2, none⟩ (.string (nextU st))).heap[w.heap.size]? = some (.cells #[.int .i64 (st.h.gen + 1), .int .i64 root, .string (nextU st)] 113) := by
      rw [hss _ _ 2 _ _ _ (hss _ _ 1 _ _ _ (hss _ _ 0 _ _ _ hX))]
      rfl
     have Z0 : Hid ((((wr.setCell ⟨w.heap.size, 0, none⟩ (.int .i64 (st.h.gen + 1))).setCell ⟨w.heap.size, 1, none⟩ (.int .i64 root)).setCell ⟨w.heap.size, 2, none⟩ (.string (nextU st))).cell? ⟨w.heap.size, 0, none⟩ = some (.int .i64 (st.h.gen + 1))) := Hd (by rw [cob XR]; rfl);have Z1 : Hid ((((wr.setCell ⟨w.heap.size, 0, none⟩ (.int .i64 (st.h.gen + 1))).setCell ⟨w.heap.size, 1, none⟩ (.int .i64 root)).setCell ⟨w.heap.size, 2, none⟩ (.string (nextU st))).cell? ⟨w.heap.size, 1, none⟩ = some (.int .i64 root)) := Hd (by rw [cob XR]; rfl)
     have Z2 : Hid ((((wr.setCell ⟨w.heap.size, 0, none⟩ (.int .i64 (st.h.gen + 1))).setCell ⟨w.heap.size, 1, none⟩ (.int .i64 root)).setCell ⟨w.heap.size, 2, none⟩ (.string (nextU st))).cell? ⟨w.heap.size, 2, none⟩ = some (.string (nextU st))) := Hd (by rw [cob XR]; rfl);have FIN : Hid (Below w.heap.size w (((wr.setCell ⟨w.heap.size, 0, none⟩ (.int .i64 (st.h.gen + 1))).setCell ⟨w.heap.size, 1, none⟩ (.int .i64 root)).setCell ⟨w.heap.size, 2, none⟩ (.string (nextU st)))) := Hd (((hb.setCell (Nat.le_refl _) _).setCell (Nat.le_refl _) _).setCell (Nat.le_refl _) _)
     clear hR hP hb hX hsub PP BB XX XR hln;go_wp2_with fail;exact bodyPost_ret (v := .agg #[.int .i64 (st.h.gen + 1), .int .i64 root, .string (nextU st)]) (by simp [results, Tryz.results59, go_sem, Z0.out, Z1.out, Z2.out]) rfl ⟨rfl, FIN.out⟩
    ·have R4 := Hd hR4
     have P4 := Hd (hP.step n hn (hsub n hn) (RG.out n (hsub n hn)));have hgb := GB.out n (hsub n hn);have B4 : Hid (Below w.heap.size w w4) := Hd (hb.trans (hf4.below (fun i hi => by have hi : i = q := hi; have := HQQ.out; omega) hb.size));have X4 : Hid (w4.heap[w.heap.size]? = some (.cells #[.int .i64 0, .int .i64 0, .string ⟨#[]⟩] 113)) := Hd ((hf4.block _ (zl hX) (by show ¬ w.heap.size = q; have := HQQ.out; omega)).trans hX);have ML := Hd (filter_less hn);clear hR hP hb hX hR4 hf4 hs4 hsub hn PP BB XX;unfold unitV at hnx hen;go_wp2_with fail
     refine (W2.out n ub w4 (by omega)).mono ?_;rintro e w5 ⟨rfl, b5⟩;have R5 := Hd (R4.out.kept (b5.block _ R4.out.set.lt) (b5.block _ R4.out.lt));have B5 := Hd (chain B4.out b5);have X5 := Hd (kept X4.out b5);clear b5 hnx hen;go_wp2_with fail;go_roundw
     case rel => exact ⟨_, _, rfl, R5.out, P4.out, B5.out, X5.out⟩
     case measure => rw [R5.out.len, hln.out]; exact ML.out
  ·have R4 := Hd hR2
   have P4 := Hd (hP.step n hn (hsub n hn) (RF.out n (hsub n hn)));have hgb := FB.out n (hsub n hn);have B4 : Hid (Below w.heap.size w w2) := Hd (hb.trans (hf2.below (fun i hi => by have hi : i = r := hi; have := HRR.out; omega) hb.size));have X4 : Hid (w2.heap[w.heap.size]? = some (.cells #[.int .i64 0, .int .i64 0, .string ⟨#[]⟩] 113)) := Hd ((hf2.block _ (zl hX) (by show ¬ w.heap.size = r; have := HRR.out; omega)).trans hX);have ML := Hd (filter_less hn);clear hR hP hb hX hR2 hf2 hs2 hsub hn PP BB XX;unfold unitV at hnx hen;go_wp2_with fail
   refine (W1.out n ub w2 (by omega)).mono ?_;rintro e w5 ⟨rfl, b5⟩;have R5 := Hd (R4.out.kept (b5.block _ R4.out.set.lt) (b5.block _ R4.out.lt));have B5 := Hd (chain B4.out b5);have X5 := Hd (kept X4.out b5);clear b5 hnx hen;go_wp2_with fail;go_roundw
   case rel => exact ⟨_, _, rfl, R5.out, P4.out, B5.out, X5.out⟩
   case measure => rw [R5.out.len, hln.out]; exact ML.out
theorem Sto.disk {w : World} {s d : Nat} {st : ShS} {F : Nat → Prop} (h : Sto w s d st F) : w.cell? ⟨s, 0, none⟩ = some (.pointer (some ⟨d, 0, none⟩)) := by
 obtain ⟨f, g, hi, he⟩ := h;exact hi.cells.1
theorem Sto.cells {w : World} {s d : Nat} {st : ShS} {F : Nat → Prop} (h : Sto w s d st F) : ∃ f g, w.cell? ⟨s, 0, none⟩ = some (.pointer (some ⟨d, 0, none⟩)) ∧ w.cell? ⟨s, 1, none⟩ = some (.int .i64 st.h.gen) ∧ w.cell? ⟨s, 2, none⟩ = some (.int .i64 st.h.root) ∧ w.cell? ⟨s, 3, none⟩ = some (.string st.h.used) ∧ w.cell? ⟨s, 4, none⟩ = some (.map (some f)) ∧ w.cell? ⟨s, 5, none⟩ = some (.map (some g)) ∧ w.cell? ⟨s, 6, none⟩ = some (.bool st.up) ∧ ∀ k, w.frozen? ⟨s, k, none⟩ = false := by
 obtain ⟨f, g, hi, he⟩ := h;obtain ⟨c0, c1, c2, c3, c4, c5, c6⟩ := hi.cells;exact ⟨f, g, c0, c1, c2, c3, c4, c5, c6, hi.free⟩
theorem DSPost.next {w wc w2 : World} {d s : Nat} {dk1 dk2 : DkS} {st1 st2 : ShS} {FD FS : Nat → Prop} (hp : DSPost w d s FD FS dk1 st1 wc) (h : ∀ FD', DS wc d s dk1 st1 FD' FS → DSPost wc d s FD' FS dk2 st2 w2) : DSPost w d s FD FS dk2 st2 w2 := by
 obtain ⟨FD', h1, f1, n1⟩ := hp;exact DSPost.trans (dk1 := dk1) (st1 := st1) f1.size f1 n1 (h FD' h1)
theorem StoIn.setHead {w : World} {s d f g : Nat} {st : ShS} (h : StoIn w s d f g st) (H : HdS) (hok : HdOk H) : StoIn (((w.setCell ⟨s, 1, none⟩ (.int .i64 H.gen)).setCell ⟨s, 2, none⟩ (.int .i64 H.root)).setCell ⟨s, 3, none⟩ (.string H.used)) s d f g { st with h := H } :=
 {cell := by
   rw [hss _ _ 3 _ _ _ (hss _ _ 2 _ _ _ (hss _ _ 1 _ _ _ h.cell))]
   rfl
  fr := h.fr.kept (by rw [Below.heap_setCell _ _ _ _ (show f ≠ (⟨s, 3, none⟩ : Addr).block from Ne.symm h.sf), Below.heap_setCell _ _ _ _ (show f ≠ (⟨s, 2, none⟩ : Addr).block from Ne.symm h.sf), Below.heap_setCell _ _ _ _ (show f ≠ (⟨s, 1, none⟩ : Addr).block from Ne.symm h.sf)])
  gv := h.gv.kept (by rw [Below.heap_setCell _ _ _ _ (show g ≠ (⟨s, 3, none⟩ : Addr).block from Ne.symm h.sg), Below.heap_setCell _ _ _ _ (show g ≠ (⟨s, 2, none⟩ : Addr).block from Ne.symm h.sg), Below.heap_setCell _ _ _ _ (show g ≠ (⟨s, 1, none⟩ : Addr).block from Ne.symm h.sg)])
  sf := h.sf
  sg := h.sg
  fg := h.fg
  ok := hok
  fb := h.fb
  gb := h.gb }
theorem Sto.setHead {w : World} {s d : Nat} {st : ShS} {F : Nat → Prop} (h : Sto w s d st F) (H : HdS) (hok : HdOk H) : Sto (((w.setCell ⟨s, 1, none⟩ (.int .i64 H.gen)).setCell ⟨s, 2, none⟩ (.int .i64 H.root)).setCell ⟨s, 3, none⟩ (.string H.used)) s d { st with h := H } F ∧ Frm F w (((w.setCell ⟨s, 1, none⟩ (.int .i64 H.gen)).setCell ⟨s, 2, none⟩ (.int .i64 H.root)).setCell ⟨s, 3, none⟩ (.string H.used)) := by
 obtain ⟨f, g, hi, he⟩ := h;have hs : F s := (he s).2 (.inl rfl);exact ⟨⟨f, g, hi.setHead H hok, he⟩, (((Frm.refl F w).setCell _ _ (.inl hs)).setCell _ _ (.inl hs)).setCell _ _ (.inl hs)⟩
theorem hasB_in80 {b : ByteArray} (h : b.size = 80) {n : Int} (hn : hasB b n = true) : 0 ≤ n ∧ n < 640 := by
 by_cases hr : 0 ≤ n ∧ n < 8 * (b.size : Int)
 ·omega
 ·rw [hasB_out b n hr] at hn; cases hn
theorem Sto.okh {w : World} {s d : Nat} {st : ShS} {F : Nat → Prop} (h : Sto w s d st F) : HdOk st.h := by
 obtain ⟨f, g, hi, he⟩ := h;exact hi.ok
theorem may_rng {w : World} {s d : Nat} {st : ShS} {F : Nat → Prop} (h : Sto w s d st F) {n : Int} (hm : mayB st n = true) : 0 ≤ n ∧ n < 640 := by
 obtain ⟨f, g, hi, he⟩ := h;unfold mayB at hm;simp only [Bool.or_eq_true, decide_eq_true_eq, Bool.and_eq_true] at hm
 rcases hm with (rfl | hm) | hm
 ·omega
 ·have := hi.fb n hm; omega
 ·exact hasB_in80 hi.ok.u hm.1
theorem nextH_ok {st : ShS} (h : HdOk st.h) {root : Int} (hr : 0 ≤ root ∧ root < 640) (hg : st.h.gen ≤ 281474976710654) : HdOk (nextH st root) :=
 ⟨by have := h.g0; show 0 ≤ st.h.gen + 1; omega, by show st.h.gen + 1 ≤ _; omega, hr.1, by show root ≤ _; omega, by show (nextU st).size = 80; unfold nextU; rw [withAll_size, withAll_size]; exact h.u⟩
def ShS.commit (st : ShS) (dk : DkS) (root : Int) : DkS × ShS × Int :=
 if st.up = false then (dk, st, 5) else if mayB st root = false then (dk, st, 1) else if st.h.gen = 281474976710655 then (dk, st, 6)
 else if dk.sync.2 ≠ 0 then (dk.sync.1, st.told dk.sync.2, dk.sync.2)
 else if (wrHead dk.sync.1 (nextH st root)).2 ≠ 0 then ((wrHead dk.sync.1 (nextH st root)).1, st.told (wrHead dk.sync.1 (nextH st root)).2, (wrHead dk.sync.1 (nextH st root)).2)
 else ((wrHead dk.sync.1 (nextH st root)).1, ⟨nextH st root, [], [], st.up⟩, 0)
theorem told_0 (st : ShS) : st.told 0 = st := by unfold ShS.told; rw [if_neg (by decide)]
theorem commit_down (w : World) (d s : Nat) (dk : DkS) (st : ShS) (FD FS : Nat → Prop) (h : DS w d s dk st FD FS) (root : Int) (hu : st.up = false) :
  Calls Tryz.prog 23 #[.pointer (some ⟨s, 0, none⟩), .int .i64 root] w fun e w' => e = .returned (.int .i64 5) ∧ DSPost w d s FD FS dk st w' := by
 have H := Hd h;obtain ⟨f, g, c0, c1, c2, c3, c4, c5, c6, hf⟩ := h.sto.cells;rw [hu] at c6;clear h hf;go_enter Tryz.func23, Tryz.ntmps23;go_wp2_with fail;go_ret;exact ⟨rfl, DSPost.same H.out⟩
theorem commit_may (w : World) (d s : Nat) (dk : DkS) (st : ShS) (FD FS : Nat → Prop) (h : DS w d s dk st FD FS) (root : Int) (hu : st.up = true) (hr : root < 9223372036854775808) (hm : mayB st root = false) :
  Calls Tryz.prog 23 #[.pointer (some ⟨s, 0, none⟩), .int .i64 root] w fun e w' => e = .returned (.int .i64 1) ∧ DSPost w d s FD FS dk st w' := by
 have H := Hd h;have MY := Hd (may_is w s d st FS h.sto root hr false hm);obtain ⟨f, g, c0, c1, c2, c3, c4, c5, c6, hf⟩ := h.sto.cells;rw [hu] at c6;clear h hf;go_enter Tryz.func23, Tryz.ntmps23;go_wp2_with fail;refine MY.out.mono ?_;rintro e w1 ⟨rfl, b1⟩;have P1 := Hd (DSPost.below H.out b1);clear b1;go_wp2_with fail;go_ret;exact ⟨rfl, P1.out⟩
theorem commit_last (w : World) (d s : Nat) (dk : DkS) (st : ShS) (FD FS : Nat → Prop) (h : DS w d s dk st FD FS) (root : Int) (hu : st.up = true) (hr : root < 9223372036854775808) (hm : mayB st root = true) (hg : st.h.gen = 281474976710655) :
  Calls Tryz.prog 23 #[.pointer (some ⟨s, 0, none⟩), .int .i64 root] w fun e w' => e = .returned (.int .i64 6) ∧ DSPost w d s FD FS dk st w' := by
 have H := Hd h;have MY := Hd (may_is w s d st FS h.sto root hr true hm);have CE := Hd (fun w' (hb : Below w.heap.size w w') => (h.sto.below hb).cells);obtain ⟨f, g, c0, c1, c2, c3, c4, c5, c6, hf⟩ := h.sto.cells;rw [hu] at c6;clear h hf;go_enter Tryz.func23, Tryz.ntmps23;go_wp2_with fail;refine MY.out.mono ?_;rintro e w1 ⟨rfl, b1⟩;have P1 := Hd (DSPost.below H.out b1);obtain ⟨f1, g1, x0, x1, x2, x3, x4, x5, x6, xf⟩ := CE.out w1 b1;rw [hg] at x1;clear b1 xf c0 c1 c2 c3 c4 c5 c6;go_wp2_with fail;go_ret;exact ⟨rfl, P1.out⟩
theorem commit_sync (w : World) (d s : Nat) (dk : DkS) (st : ShS) (FD FS : Nat → Prop) (h : DS w d s dk st FD FS) (root : Int) (hu : st.up = true) (hr : root < 9223372036854775808) (hm : mayB st root = true) (hg : ¬ st.h.gen = 281474976710655) (hs : dk.sync.2 ≠ 0) :
  Calls Tryz.prog 23 #[.pointer (some ⟨s, 0, none⟩), .int .i64 root] w fun e w' => e = .returned (.int .i64 dk.sync.2) ∧ DSPost w d s FD FS dk.sync.1 (st.told dk.sync.2) w' := by
 have MY := Hd (may_is w s d st FS h.sto root hr true hm);have CE := Hd (fun w' (hb : Below w.heap.size w w') => (h.sto.below hb).cells);have HB := Hd (fun w' (hb : Below w.heap.size w w') => h.below hb);have hrng := may_rng h.sto hm;have hok0 := h.sto.okh;have hgl : st.h.gen ≤ 281474976710654 := by have := hok0.g1; omega
 obtain ⟨f, g, c0, c1, c2, c3, c4, c5, c6, hf⟩ := h.sto.cells;rw [hu] at c6;have hgb : (st.h.gen == 281474976710655) = false := by simpa using hg
 have H := Hd h;obtain ⟨q, hq⟩ : ∃ q, dk.sync.2 = q := ⟨_, rfl⟩
 have SYN := Hd (fun w' FD' (h' : Dk w' d dk FD') => sync_any w' d dk FD' h');rw [hq] at SYN hs ⊢;have hq1 : (q == 0) = false := by simpa using hs
 have hq2 : (q != 0) = true := by simpa using hs
 clear h hf hg hm hr hrng hok0 hgl hq hs;go_enter Tryz.func23, Tryz.ntmps23;go_wp2_with fail;refine MY.out.mono ?_;rintro e w1 ⟨rfl, b1⟩;have D1 := Hd (HB.out w1 b1);have B1S := Hd b1.size;have B1F := Hd (Frm.of_below (F := fun k => FD k ∨ FS k) b1);obtain ⟨f1, g1, x0, x1, x2, x3, x4, x5, x6, xf⟩ := CE.out w1 b1;clear b1 xf c0 c1 c2 c3 c4 c5 c6 CE HB MY H;go_wp2_with fail;refine (SYN.out w1 FD D1.out.dk).mono ?_;rintro e w2 ⟨rfl, hp⟩;have PP := DSPost.disk D1.out hp;obtain ⟨FD2, D2', f2, n2⟩ := PP
 have P2 : Hid (DSPost w d s FD FS dk.sync.1 st w2) := Hd (by
  exact DSPost.trans (dk1 := dk) (st1 := st) B1S.out B1F.out (fun k hk => .inl hk) ⟨FD2, D2', f2, n2⟩)
 have D2 := Hd D2';clear hp D2' f2 n2 x0 x1 x2 x3 x4 x5 x6 D1 B1S B1F;go_wp2_with fail;refine (told_is w2 s d st FS D2.out.sto q).mono ?_;rintro e w3 ⟨rfl, hs3, hf3⟩;have P3 : Hid (DSPost w d s FD FS dk.sync.1 (st.told q) w3) := Hd (P2.out.next (fun FD' h' => DSPost.store h' hf3 hs3));clear hs3 hf3 P2 D2;go_wp2_with fail;go_ret;exact ⟨rfl, P3.out⟩
theorem commit_on (w : World) (d s : Nat) (dk : DkS) (st : ShS) (FD FS : Nat → Prop) (h : DS w d s dk st FD FS) (root : Int) (hu : st.up = true) (hr : root < 9223372036854775808) (hm : mayB st root = true) (hg : ¬ st.h.gen = 281474976710655) (hs : dk.sync.2 = 0) :
  Calls Tryz.prog 23 #[.pointer (some ⟨s, 0, none⟩), .int .i64 root] w fun e w' => e = .returned (.int .i64 (wrHead dk.sync.1 (nextH st root)).2) ∧ DSPost w d s FD FS (wrHead dk.sync.1 (nextH st root)).1 (if (wrHead dk.sync.1 (nextH st root)).2 = 0 then ⟨nextH st root, [], [], st.up⟩ else st.told (wrHead dk.sync.1 (nextH st root)).2) w' := by
 have MY := Hd (may_is w s d st FS h.sto root hr true hm);have CE := Hd (fun w' (hb : Below w.heap.size w w') => (h.sto.below hb).cells);have HB := Hd (fun w' (hb : Below w.heap.size w w') => h.below hb);have hrng := may_rng h.sto hm;have hok0 := h.sto.okh;have hgl : st.h.gen ≤ 281474976710654 := by have := hok0.g1; omega
 obtain ⟨f, g, c0, c1, c2, c3, c4, c5, c6, hf⟩ := h.sto.cells;rw [hu] at c6;have hgb : (st.h.gen == 281474976710655) = false := by simpa using hg
 have H := Hd h;have hokN := nextH_ok hok0 hrng hgl;have SYN := Hd (fun w' FD' (h' : Dk w' d dk FD') => sync_any w' d dk FD' h');rw [hs] at SYN;obtain ⟨dk1, hdk1⟩ : ∃ dk1, dk.sync.1 = dk1 := ⟨_, rfl⟩
 rw [hdk1] at SYN ⊢;have NXT := Hd (fun w' (h' : Sto w' s d st FS) => next_is w' s d st FS h' root hgl);obtain ⟨HN, hHN⟩ : ∃ H, nextH st root = H := ⟨_, rfl⟩
 rw [hHN] at NXT hokN ⊢;have WRH := Hd (fun w' FD' (h' : Dk w' d dk1 FD') => writeHead_is w' d dk1 FD' h' HN hokN.g0 (by have := hokN.g1; omega) hokN.r0 (by have := hokN.r1; omega) (by have := hokN.u; omega));obtain ⟨⟨dk2, q⟩, hq⟩ : ∃ r, wrHead dk1 HN = r := ⟨_, rfl⟩
 rw [hq] at WRH ⊢
 dsimp only at WRH ⊢
 have HOK := Hd hokN;obtain ⟨stR, hstR⟩ : ∃ stR, (if q = 0 then (⟨HN, [], [], st.up⟩ : ShS) else st.told q) = stR := ⟨_, rfl⟩
 rw [hstR];have HSR := Hd hstR;unfold hdV at NXT WRH;clear h hf hg hm hr hrng hok0 hgl hs hHN hq hstR hokN;go_enter Tryz.func23, Tryz.ntmps23;go_wp2_with fail;refine MY.out.mono ?_;rintro e w1 ⟨rfl, b1⟩;have D1 := Hd (HB.out w1 b1);have B1S := Hd b1.size;have B1F := Hd (Frm.of_below (F := fun k => FD k ∨ FS k) b1);obtain ⟨f1, g1, x0, x1, x2, x3, x4, x5, x6, xf⟩ := CE.out w1 b1;clear b1 xf c0 c1 c2 c3 c4 c5 c6 CE HB MY H;go_wp2_with fail;refine (SYN.out w1 FD D1.out.dk).mono ?_;rintro e w2 ⟨rfl, hp⟩;have PP := DSPost.disk D1.out hp;obtain ⟨FD2, D2', f2, n2⟩ := PP
 have P2 : Hid (DSPost w d s FD FS dk1 st w2) := Hd (by
  exact DSPost.trans (dk1 := dk) (st1 := st) B1S.out B1F.out (fun k hk => .inl hk) ⟨FD2, D2', f2, n2⟩)
 have D2 := Hd D2';clear hp D2' f2 n2 x0 x1 x2 x3 x4 x5 x6 D1 B1S B1F;go_wp2_with fail;refine (told_is w2 s d st FS D2.out.sto 0).mono ?_;rintro e w3 ⟨rfl, hs3, hf3⟩;rw [told_0] at hs3;have P3 : Hid (DSPost w d s FD FS dk1 st w3) := Hd (P2.out.next (fun FD' h' => DSPost.store h' hf3 hs3));clear hs3 hf3 P2 D2;go_wp2_with fail;obtain ⟨FD3, hD3, hF3, hN3⟩ := P3.out;refine (NXT.out w3 hD3.sto).mono ?_;rintro e w4 ⟨rfl, b4⟩;have P4 : Hid (DSPost w d s FD FS dk1 st w4) := Hd (P3.out.next (fun FD' h' => DSPost.below h' b4));clear hD3 hF3 hN3 b4 P3 NXT;go_upto_region 11 with fail
 obtain ⟨w5, hw5⟩ : ∃ w5, w4.alloc (.cells #[.int .i64 HN.gen, .int .i64 HN.root, .string HN.used] 113) = w5 := ⟨_, rfl⟩
 rw [hw5];have b5 : Below w4.heap.size w4 w5 := by rw [← hw5]; exact below_made _ _
 have Y5 := Hd (show w5.heap[w4.heap.size]? = some (.cells #[.int .i64 HN.gen, .int .i64 HN.root, .string HN.used] 113) from by rw [← hw5]; exact han _ _);have P5 : Hid (DSPost w d s FD FS dk1 st w5) := Hd (P4.out.next (fun FD' h' => DSPost.below h' b5));obtain ⟨FD5, hD5, hF5, hN5⟩ := P4.out
 have hny : ¬ (FD5 w4.heap.size ∨ FS w4.heap.size) := fun hx => by
  rcases hx with hx | hx
  ·exact Nat.lt_irrefl _ (hD5.dk.lt _ hx)
  ·exact Nat.lt_irrefl _ (hD5.sto.lt _ hx)
 have D5 := Hd (hD5.below b5);have P5' : Hid (∀ dk' st' w', DSPost w5 d s FD5 FS dk' st' w' → DSPost w d s FD FS dk' st' w') := Hd (fun dk' st' w' hp => DSPost.trans (dk1 := dk1) (st1 := st) (Nat.le_trans hF5.size b5.size) (hF5.trans (Frm.of_below (F := fun k => FD k ∨ FS k) b5) (fun i hi => .inl hi)) hN5 hp);clear hD5 hF5 hN5 b5 hw5 P4 P5;have hly : w4.heap.size < w5.heap.size := (zl Y5.out);have c50 := D5.out.sto.disk
 refine wp_region_held_drew (S := fun w' => Frm (fun k => FD5 k ∨ FS k) w5 w' ∧ w'.cell? ⟨s, 0, none⟩ = some (.pointer (some ⟨d, 0, none⟩))) (by kernel_rfl) ⟨(Frm.refl (fun k => FD5 k ∨ FS k) w5).drew, c50⟩ (fun hS => ?_);refine Hu 0 39 hS ?_;simp only [SL];refine Hu 1 40 hS ?_;simp only [SL];refine Hu 2 41 hS ?_;simp only [SL];refine Hu 3 42 hS ?_;simp only [SL];refine Hv 4 43 ?vc4x5 hS ?hc4x5 ?_
 case hc4x5 =>
  intro w9 s9;have c := s9.2;clear s9;go_simp;try (with_reducible rfl)
 simp only [SL];refine Hv 5 44 ?vc5x6 hS ?hc5x6 ?_
 case hc5x6 =>
  intro w9 s9;have X9 := (s9.1.block w4.heap.size hly hny).trans Y5.out;have c0 := cl X9 0 rfl;have c1 := cl X9 1 rfl;have c2 := cl X9 2 rfl;clear s9;go_simp;try (with_reducible rfl)
 simp only [SL];refine Hs 6 (fun K HK => ?_);go_simp;go_wp2_with fail;refine (WRH.out _ FD5 (D5.out.dk.below (Below.refl w5.heap.size w5).drew)).mono ?_;rintro e v6 ⟨rfl, hp⟩;obtain ⟨FD6, hD6, hF6d, hN6⟩ : DSPost w5 d s FD5 FS dk2 st v6 := DSPost.trans (w1 := w5.drew) (dk1 := dk1) (st1 := st) (Nat.le_refl _) (Frm.of_below (Below.refl w5.heap.size w5).drew) (fun k hk => .inl hk) (DSPost.disk (D5.out.below (Below.refl w5.heap.size w5).drew) hp);have hF6 : Frm (fun k => FD5 k ∨ FS k) w5.drew v6 := ⟨hF6d.os, hF6d.tape, hF6d.output, hF6d.size, hF6d.block⟩
 clear hp;refine HK.out _ _ ?_ ?_
 ·exact ⟨hS.1.trans hF6 (fun i hi => .inl hi), hD6.sto.disk⟩
 clear HK K;try simp only [Act.put, SL]
 have hS9 := And.intro (hS.1.trans hF6 (fun i hi => .inl hi)) hD6.sto.disk;clear hS;have hS := hS9;clear hS9;have D6 := Hd hD6;have P6 : Hid (DSPost w5 d s FD5 FS dk2 st v6) := Hd ⟨FD6, hD6, hF6d, hN6⟩;clear hD6 hF6 hF6d hN6;refine Hs 7 (fun K HK => ?_);go_simp;go_wp2_with fail;refine (told_is _ s d st FS D6.out.sto q).mono ?_;rintro e v7 ⟨rfl, hs7, hf7⟩;refine HK.out _ _ ?_ ?_
 ·exact ⟨hS.1.trans hf7 (fun i hi => .inl (.inr hi)), hs7.disk⟩
 clear HK K;try simp only [Act.put, SL]
 have P7 : Hid (DSPost w5 d s FD5 FS dk2 (st.told q) v7) := Hd (P6.out.next (fun FD' h' => DSPost.store h' hf7 hs7));have hS9 := And.intro (hS.1.trans hf7 (fun i hi => .inl (.inr hi))) hs7.disk;clear hS hs7 hf7 P6 D6;have hS := hS9;clear hS9;refine Hu 8 7 hS ?_;simp only [SL];refine wpAnyH_done (by kernel_rfl) ?_ _;have Y7 := (hS.1.block w4.heap.size hly hny).trans Y5.out;clear hS;have hsr := HSR.out
 by_cases h0 : q = 0
 ·subst h0
  rw [if_pos rfl] at hsr;subst hsr;have PT7 := P7.out;rw [told_0] at PT7;obtain ⟨FD7, hD7, hF7, hN7⟩ := PT7;obtain ⟨f7, g7, x0, x1, x2, x3, x4, x5, x6, xf⟩ := hD7.sto.cells;have y1 := xf 1;have y2 := xf 2;have y3 := xf 3;have c0 := cl Y7 0 rfl;have c1 := cl Y7 1 rfl;have c2 := cl Y7 2 rfl;obtain ⟨hsh, hfh⟩ := hD7.sto.setHead HN HOK.out;have RB := Hd (rollback_is _ s d _ FS hsh)
  have FIN : Hid (∀ w9, (Sto w9 s d ({ st with h := HN } : ShS).back FS ∧ Frm FS (((v7.setCell ⟨s, 1, none⟩ (.int .i64 HN.gen)).setCell ⟨s, 2, none⟩ (.int .i64 HN.root)).setCell ⟨s, 3, none⟩ (.string HN.used)) w9) → DSPost w d s FD FS dk2 ⟨HN, [], [], st.up⟩ w9) := Hd (fun w9 hx => P5'.out _ _ _ (DSPost.trans (dk1 := dk2) (st1 := st) hF7.size hF7 hN7 (DSPost.store hD7 (hfh.trans hx.2 (fun i hi => .inl hi)) hx.1)));clear hD7 hF7 hN7 hsh hfh xf P7 Y7;go_wp2_with fail;refine RB.out.mono ?_;rintro e w9 ⟨rfl, hx⟩;have P9 := Hd (FIN.out w9 hx);clear hx FIN;go_wp2_with fail;go_ret;exact ⟨rfl, P9.out⟩
 ·rw [if_neg h0] at hsr
  subst hsr;have h1 : (q == 0) = false := by simpa using h0
  have h2 : (q != 0) = true := by simpa using h0
  have P9 := Hd (P5'.out _ _ _ P7.out);clear P7 Y7 HSR;go_wp2_with fail;go_ret;exact ⟨rfl, P9.out⟩
theorem commit_is (w : World) (d s : Nat) (dk : DkS) (st : ShS) (FD FS : Nat → Prop) (h : DS w d s dk st FD FS) (root : Int) (hr : root < 9223372036854775808) :
  Calls Tryz.prog 23 #[.pointer (some ⟨s, 0, none⟩), .int .i64 root] w fun e w' => e = .returned (.int .i64 (st.commit dk root).2.2) ∧ DSPost w d s FD FS (st.commit dk root).1 (st.commit dk root).2.1 w' := by
 unfold ShS.commit
 cases hu : st.up
 ·rw [if_pos rfl]; exact commit_down w d s dk st FD FS h root hu
 ·rw [if_neg (by decide)]
  cases hm : mayB st root
  ·rw [if_pos rfl]; exact commit_may w d s dk st FD FS h root hu hr hm
  ·rw [if_neg (by decide)]
   by_cases hg : st.h.gen = 281474976710655
   ·rw [if_pos hg]; exact commit_last w d s dk st FD FS h root hu hr hm hg
   ·rw [if_neg hg]
    by_cases hs : dk.sync.2 = 0
    ·rw [if_neg (by simpa using hs)]
     have := commit_on w d s dk st FD FS h root hu hr hm hg hs
     by_cases hq : (wrHead dk.sync.1 (nextH st root)).2 = 0
     ·rw [if_neg (by simpa using hq)]
      rw [if_pos hq, hq, hu] at this;exact this
     ·rw [if_pos hq]
      rw [if_neg hq] at this;exact this
    ·rw [if_pos hs]; exact commit_sync w d s dk st FD FS h root hu hr hm hg hs
def fmtH : HdS := ⟨1, 0, Str (List.replicate 80 0)⟩
theorem fmtH_ok : HdOk fmtH := ⟨by decide, by decide, by decide, by decide, by show (Str (List.replicate 80 0)).size = 80; decide⟩
def Born (w : World) (d : Nat) (dk : DkS) (st : ShS) (F : Nat → Prop) (w' : World) (v : Value) : Prop := ∃ s FS FD', v = .pointer (some ⟨s, 0, none⟩) ∧ DS w' d s dk st FD' FS ∧ Frm F w w' ∧ (∀ k, FD' k → F k ∨ w.heap.size ≤ k) ∧ ∀ k, FS k → w.heap.size ≤ k
theorem Born.of {w w1 w2 : World} {d : Nat} {dk : DkS} {st : ShS} {F : Nat → Prop} {v : Value} (h : DkPost w d dk F w1) (b : Below w1.heap.size w1 w2) (ho : Opened w2 d st w1 v) : Born w d dk st F w2 v := by
 obtain ⟨FD', h1, h2, h3⟩ := h;obtain ⟨s, FS, rfl, hs, hn⟩ := ho;refine ⟨s, FS, FD', rfl, ⟨h1.below b, hs, fun k hk hx => ?_⟩, h2.trans (Frm.of_below (F := F) b) (fun i hi => .inl hi), h3, fun k hk => Nat.le_trans h2.size (hn k hk)⟩;have := h1.lt k hk;have := hn k hx;omega
def FmtPost (w : World) (d : Nat) (F : Nat → Prop) (r : DkS × Int) (e : Ending) (w' : World) : Prop :=
 (r.2 = 0 → ∃ v, e = .returned (.tuple #[v, .int .i64 0]) ∧ Born w d r.1 (ShS.new fmtH) F w' v) ∧ (r.2 ≠ 0 → e = .returned (.tuple #[.pointer none, .int .i64 r.2]) ∧ DkPost w d r.1 F w')
theorem format_is (w : World) (d : Nat) (dk : DkS) (F : Nat → Prop) (hd : Dk w d dk F) :
  Calls Tryz.prog 42 #[.pointer (some ⟨d, 0, none⟩)] w fun e w' => FmtPost w d F (wrHead dk fmtH) e w' := by
 have BN := Hd (fun w => new_any 640 w (by decide) (by decide));have hn : newN 640 = 80 := by decide
 rw [hn] at BN;obtain ⟨T, hT⟩ : ∃ T, Str (List.replicate 80 0) = T := ⟨_, rfl⟩
 rw [hT] at BN;have WRH := Hd (fun w' FD' (h' : Dk w' d dk FD') => writeHead_is w' d dk FD' h' fmtH fmtH_ok.g0 (by have := fmtH_ok.g1; omega) fmtH_ok.r0 (by have := fmtH_ok.r1; omega) (by have := fmtH_ok.u; omega));have OPN := Hd (fun w' => open_is w' d fmtH fmtH_ok);have hH : fmtH = ⟨1, 0, T⟩ := by rw [← hT]; rfl
 obtain ⟨⟨dk2, q⟩, hq⟩ : ∃ r, wrHead dk fmtH = r := ⟨_, rfl⟩
 rw [hq] at WRH ⊢;unfold hdV at WRH OPN;have hg : fmtH.gen = 1 := rfl;have hr : fmtH.root = 0 := rfl;have hu : fmtH.used = T := hT;rw [hg, hr, hu] at WRH OPN;have HD := Hd hd;clear hd hn hT hH hq hg hr hu;go_enter Tryz.func42, Tryz.ntmps42;go_wp2_with fail;refine (BN.out _).mono ?_;rintro e w1 ⟨rfl, b1⟩;have B1 := Hd b1;clear b1;go_upto_region 2 with fail
 obtain ⟨w2, hw2⟩ : ∃ w2, w1.alloc (.cells #[.int .i64 1, .int .i64 0, .string T] 113) = w2 := ⟨_, rfl⟩
 rw [hw2];have b2 : Below w1.heap.size w1 w2 := by rw [← hw2]; exact below_made _ _
 have X2 : w2.heap[w1.heap.size]? = some (.cells #[.int .i64 1, .int .i64 0, .string T] 113) := by rw [← hw2]; exact han _ _
 have B2 := Hd (chain B1.out b2);have HD2 := Hd (HD.out.below B2.out)
 have HL : ¬ F w1.heap.size := fun hx => by
  have := HD.out.lt _ hx;have := B1.out.size;omega
 have LY := (zl X2);have XH := Hd X2;have y0 := cl X2 0 rfl;have y1 := cl X2 1 rfl;have y2 := cl X2 2 rfl;clear b2 hw2 X2 HD;go_wp2_with fail;refine (WRH.out _ F HD2.out).mono ?_;rintro e w3 ⟨rfl, hp⟩;obtain ⟨FD3, h3, f3, n3⟩ := hp;have P3 : Hid (DkPost w d dk2 F w3) := Hd ⟨FD3, h3, (Frm.of_below (F := F) B2.out).trans f3 (fun i hi => .inl hi), fun k hk => (n3 k hk).imp id (fun h => Nat.le_trans B2.out.size h)⟩;have X3 := (f3.block _ LY HL).trans XH.out;have z0 := cl X3 0 rfl;have z1 := cl X3 1 rfl;have z2 := cl X3 2 rfl;clear h3 f3 n3 X3 y0 y1 y2 XH HL LY
 by_cases h0 : q = 0
 ·subst h0
  go_wp2_with fail;refine (OPN.out _).mono ?_;rintro e w4 ⟨v, rfl, ho, b4⟩;have BB := Hd (Born.of P3.out b4 ho);clear ho b4;go_wp2_with fail;go_ret2;exact ⟨fun _ => ⟨_, rfl, BB.out⟩, fun h => absurd rfl h⟩
 ·have h1 : (q == 0) = false := by simpa using h0
  have h2 : (q != 0) = true := by simpa using h0
  go_wp2_with fail;go_ret2;exact ⟨fun h => absurd h h0, fun _ => ⟨rfl, P3.out⟩⟩

theorem loosened_up (st : DkS) (n : Nat) : (st.loosened n).up = st.up := by unfold DkS.loosened; split <;> rfl
theorem loosened_fuse (st : DkS) (n : Nat) : (st.loosened n).fuse = st.fuse := by unfold DkS.loosened; split <;> rfl
theorem wrote_up (st : DkS) (n : Nat) (s : List UInt8) : (st.wrote n s).up = st.up := by
 show (DkS.loosened _ n).up = _
 rw [loosened_up]
theorem wrote_fuse (st : DkS) (n : Nat) (s : List UInt8) : (st.wrote n s).fuse = if 0 < st.fuse then st.fuse - 1 else st.fuse := by
 show (DkS.loosened _ n).fuse = _
 rw [loosened_fuse]
theorem wrote_S (st : DkS) (n : Nat) (s : List UInt8) : (st.wrote n s).S = st.S.set n s := by
 show (DkS.loosened _ n).S.set n s = _
 rw [loosened_S]
theorem write_done (st : DkS) (n : Nat) (s : List UInt8) (hu : st.up = true) (hn : n < st.S.length) (hs : s.length = 256) (hf : st.fuse ≠ 0) : st.write (n : Int) s = (st.wrote n s, 0) := by
 unfold DkS.write;rw [if_neg (by rw [hu]; simp), if_neg (by rw [hs]; simp; omega), if_neg hf]
 rfl
theorem read_done (st : DkS) (n : Nat) (hu : st.up = true) (hn : n < st.S.length) : st.read (n : Int) = (st.S[n], 0) := by
 unfold DkS.read;rw [if_neg (by rw [hu]; simp), if_neg (by simp; omega), Int.toNat_natCast, List.getD_eq_getElem?_getD, List.getElem?_eq_getElem hn]
 rfl

theorem ptr_nilD (a : Addr) (w : World) : (binOp .eql 34 (.pointer (some a)) (.pointer none)).run Tryz.prog w = .ok (.bool false) w := by kernel_rfl
theorem ptr_nilS (a : Addr) (w : World) : (binOp .eql 36 (.pointer (some a)) (.pointer none)).run Tryz.prog w = .ok (.bool false) w := by kernel_rfl
theorem ptr_neS (a : Addr) (w : World) : (binOp .neq 36 (.pointer (some a)) (.pointer none)).run Tryz.prog w = .ok (.bool true) w := by kernel_rfl
theorem wrHead_ok (st : DkS) (h : HdS) (hu : st.up = true) (hf : st.fuse ≠ 0) (hl : 8 ≤ st.S.length) (hs : (headT h).size ≤ 240) (g0 : 0 ≤ h.gen) :
  (wrHead st h).2 = 0 ∧ (wrHead st h).1 = { (st.wrote (h.gen % 2).toNat (pgL 1 (headT h).data.toList)) with L := [] } := by
 have hB : sealB 1 (headT h) = true := (sealB_iff 1 (headT h)).2 ⟨by decide, by decide, hs⟩
 have hS : (sealS 1 (headT h)).data.toList = pgL 1 (headT h).data.toList := by
  unfold sealS; rw [if_pos hB, Str_list]; rfl
 have hlen : (pgL 1 (headT h).data.toList).length = 256 := pgL_length 1 _ (by have : (headT h).data.toList.length = (headT h).size := rfl; omega);obtain ⟨n, hn⟩ : ∃ n : Nat, h.gen % 2 = (n : Int) := ⟨(h.gen % 2).toNat, by omega⟩
 have hw := write_done st n (pgL 1 (headT h).data.toList) hu (by omega) hlen hf
 have hp : pgWr st (h.gen % 2) 1 (headT h) = (st.wrote n (pgL 1 (headT h).data.toList), 0) := by
  unfold pgWr;rw [if_pos hB, hn, hS, hw]
 have hs' : (st.wrote n (pgL 1 (headT h).data.toList)).sync = ({ (st.wrote n (pgL 1 (headT h).data.toList)) with L := [] }, 0) := by
  unfold DkS.sync;rw [if_neg (by rw [wrote_up, hu]; decide)]
 have e : wrHead st h = (st.wrote n (pgL 1 (headT h).data.toList)).sync := by
  unfold wrHead;rw [hp, if_pos rfl]
 rw [e, hs', hn];exact ⟨rfl, rfl⟩
theorem headT_short (h : HdS) (hu : h.used.size = 80) : (headT h).size ≤ 240 := by
 unfold headT;have h1 := put_short h.gen 6 (by decide) (by decide);have h2 := put_short h.root 2 (by decide) (by decide);rw [ByteArray.size_append, ByteArray.size_append];omega
theorem commit_ok (st : ShS) (dk : DkS) (root : Int) (hu : st.up = true) (hm : mayB st root = true) (hg : st.h.gen ≠ 281474976710655) (g0 : 0 ≤ st.h.gen) (hU : st.h.used.size = 80) (du : dk.up = true) (df : dk.fuse ≠ 0) (dl : 8 ≤ dk.S.length) :
  st.commit dk root = ((wrHead dk.sync.1 (nextH st root)).1, ⟨nextH st root, [], [], true⟩, 0) ∧ (wrHead dk.sync.1 (nextH st root)).1.S.length = dk.S.length := by
 have hs : dk.sync = ({ dk with L := [] }, 0) := by unfold DkS.sync; rw [if_neg (by rw [du]; decide)]
 have hnu : (nextH st root).used.size = 80 := by
  show (nextU st).size = 80
  unfold nextU;rw [withAll_size, withAll_size]; exact hU
 have hw := wrHead_ok dk.sync.1 (nextH st root) (by rw [hs]; exact du) (by rw [hs]; exact df) (by rw [hs]; exact dl) (headT_short _ hnu) (by show 0 ≤ st.h.gen + 1; omega);constructor
 ·unfold ShS.commit
  rw [if_neg (by rw [hu]; decide), if_neg (by rw [hm]; decide), if_neg hg, if_neg (by rw [hs]; exact fun h => h rfl), if_neg (by rw [hw.1]; exact fun h => h rfl), hu]
 ·rw [hw.2]
  show (DkS.wrote _ _ _).S.length = _
  rw [wrote_S, List.length_set, hs]
def hS (L : List Int) : ShS := { ShS.new fmtH with fresh := L }
def hdL (h : HdS) : List UInt8 := pgL 1 (headT h).data.toList
theorem rd_page (st : DkS) (n k : Nat) (t : ByteArray) (hu : st.up = true) (hS : st.S[n]? = some (pgL k t.data.toList)) (k1 : 1 ≤ k) (k2 : k ≤ 15) (ht : t.size ≤ 240) : rdE st (n : Int) = 0 ∧ rdK st (n : Int) = (k : Int) ∧ rdT st (n : Int) = t := by
 obtain ⟨hn, hg⟩ := List.getElem?_eq_some_iff.1 hS;have hr := read_done st n hu hn;rw [hg] at hr;have hb := pg_back k t.data.toList k1 k2 (by have : t.data.toList.length = t.size := rfl; omega);have hK : opK (pgL k t.data.toList) = k := by unfold opK; rw [if_pos hb.1]; exact hb.2.1
 have hT : opT (pgL k t.data.toList) = t.data.toList := by unfold opT; rw [if_pos hb.1]; exact hb.2.2
 unfold rdE rdK rdT;rw [hr]
 dsimp only
 rw [if_pos rfl, if_pos rfl, if_pos rfl, hb.1, hK, hT];exact ⟨rfl, rfl, Str_of t⟩
theorem pgWr_ok (st : DkS) (n k : Nat) (t : ByteArray) (hu : st.up = true) (hf : st.fuse ≠ 0) (hn : n < st.S.length) (k1 : 1 ≤ k) (k2 : k ≤ 15) (ht : t.size ≤ 240) : pgWr st (n : Int) (k : Int) t = (st.wrote n (pgL k t.data.toList), 0) := by
 have hB : sealB (k : Int) t = true := (sealB_iff (k : Int) t).2 ⟨by omega, by omega, ht⟩
 have hS : (sealS (k : Int) t).data.toList = pgL k t.data.toList := by
  unfold sealS; rw [if_pos hB, Str_list]; rfl
 have hlen : (pgL k t.data.toList).length = 256 := pgL_length k _ (by have : t.data.toList.length = t.size := rfl; omega);unfold pgWr;rw [if_pos hB, hS, write_done st n _ hu hn hlen hf]
def Rn (dk : DkS) (p : Int) : Option Nod := if 2 ≤ p ∧ p < (dk.S.length : Int) ∧ rdE dk p = 0 ∧ rdK dk p = 2 then decN (rdT dk p) else none
theorem Rn_right {dk : DkS} {p : Int} {M : Nod} (h : Rn dk p = some M) : rightN M = true ∧ NodOk M := by
 unfold Rn at h
 split at h
 ·exact (enc_dec _ _ h).2
 ·cases h
theorem Rn_read {dk : DkS} {p : Int} {M : Nod} (h : Rn dk p = some M) : 2 ≤ p ∧ p < (dk.S.length : Int) ∧ rdE dk p = 0 ∧ rdK dk p = 2 ∧ decN (rdT dk p) = some M := by
 unfold Rn at h
 split at h
 ·rename_i hc
  exact ⟨hc.1, hc.2.1, hc.2.2.1, hc.2.2.2, h⟩
 ·cases h
structure Good (dk : DkS) (st : ShS) : Prop where
 du : dk.up = true
 df : dk.fuse = -1
 few : dk.S.length ≤ 640
 least : 8 ≤ dk.S.length
 su : st.up = true
 fb : ∀ x ∈ st.fresh, 2 ≤ x ∧ x < (dk.S.length : Int) ∧ hasB st.h.used x = false
 fn : st.fresh.Nodup
 ub : ∀ x, hasB st.h.used x = true → 2 ≤ x ∧ x < (dk.S.length : Int)
 gb : ∀ x ∈ st.given, hasB st.h.used x = true
def Live (st : ShS) (p : Int) : Prop := p ∈ st.fresh ∨ (hasB st.h.used p = true ∧ p ∉ st.given)
def Room (dk : DkS) (st : ShS) (k : Nat) : Prop := usedN st dk.S.length + st.fresh.length + 2 + k ≤ dk.S.length
theorem Room.le {dk : DkS} {st : ShS} {k j : Nat} (h : Room dk st k) (hj : j ≤ k) : Room dk st j := by unfold Room at *; omega
structure To (dk : DkS) (st : ShS) (dk' : DkS) (st' : ShS) : Prop where
 g : Good dk' st'
 len : dk'.S.length = dk.S.length
 h : st'.h = st.h
 keep : ∀ n : Nat, n < 2 ∨ hasB st.h.used (n : Int) = true → dk'.S[n]? = dk.S[n]?
theorem To.refl {dk : DkS} {st : ShS} (g : Good dk st) : To dk st dk st := ⟨g, rfl, rfl, fun _ _ => rfl⟩
theorem To.trans {dk dk1 dk2 : DkS} {st st1 st2 : ShS} (a : To dk st dk1 st1) (b : To dk1 st1 dk2 st2) : To dk st dk2 st2 :=
 ⟨b.g, b.len.trans a.len, b.h.trans a.h, fun n hn => (b.keep n (by rw [a.h]; exact hn)).trans (a.keep n hn)⟩
theorem Rn_eq {dk dk' : DkS} (u : dk.up = true) (u' : dk'.up = true) (hl : dk'.S.length = dk.S.length) (p : Int) (h : 2 ≤ p → dk'.S[p.toNat]? = dk.S[p.toNat]?) : Rn dk' p = Rn dk p := by
 by_cases hp : 2 ≤ p
 ·have e : dk'.read p = dk.read p := by
   unfold DkS.read;rw [u, u', hl, List.getD_eq_getElem?_getD, List.getD_eq_getElem?_getD, h hp]
  unfold Rn rdE rdK rdT;rw [e, hl]
 ·unfold Rn
  rw [if_neg (fun hx => hp hx.1), if_neg (fun hx => hp hx.1)]
theorem least_of (P : Nat → Bool) : ∀ n, (∀ j, j < n → P j = false) ∨ ∃ j, j < n ∧ P j = true ∧ ∀ k, k < j → P k = false := by
 intro n
 induction n with
 | zero => exact .inl fun j hj => absurd hj (Nat.not_lt_zero _)
 | succ n ih =>
  rcases ih with h | ⟨j, h1, h2, h3⟩
  ·by_cases hp : P n = true
   ·exact .inr ⟨n, Nat.lt_succ_self _, hp, h⟩
   ·refine .inl fun j hj => ?_
    by_cases hx : j = n
    ·subst hx; simpa using hp
    ·exact h j (by omega)
  ·exact .inr ⟨j, Nat.lt_succ_of_lt h1, h2, h3⟩
theorem filter_lt_len (L : List Int) (hn : L.Nodup) (k : Nat) (hk : (k : Int) ∈ L) : (L.filter fun x => decide (x < (k : Int))).length + 1 ≤ (L.filter fun x => decide (x < ((k + 1 : Nat) : Int))).length := by
 have hs : (L.filter fun x => decide (x < (k : Int))) = (L.filter fun x => decide (x < ((k + 1 : Nat) : Int))).filter fun x => decide (x < (k : Int)) := by
  rw [List.filter_filter]
  congr 1; funext x
  rw [Bool.eq_iff_iff]; simp; omega
 rw [hs]
 have hmem : (k : Int) ∈ L.filter fun x => decide (x < ((k + 1 : Nat) : Int)) := by
  rw [List.mem_filter]; exact ⟨hk, by simp; omega⟩
 generalize (L.filter fun x => decide (x < ((k + 1 : Nat) : Int))) = M at *;clear hs hk
 induction M with
 | nil => cases hmem
 | cons a M ih =>
  by_cases ha : a < (k : Int)
  ·rw [List.filter_cons_of_pos (by simpa using ha)]
   rcases List.mem_cons.1 hmem with hx | hx
   ·omega
   ·have := ih hx
    simp only [List.length_cons]; omega
  ·rw [List.filter_cons_of_neg (by simpa using ha)]
   have := List.length_filter_le (fun x => decide (x < (k : Int))) M;simp only [List.length_cons]; omega
theorem free_least {dk : DkS} {st : ShS} (g : Good dk st) (hr : Room dk st 1) : ∃ j : Nat, 2 ≤ j ∧ (j : Int) < (dk.S.length : Int) ∧ (∀ k : Nat, 2 ≤ k → k < j → freeB st (k : Int) = false) ∧ freeB st (j : Int) = true := by
 rcases least_of (fun k => decide (2 ≤ k) && freeB st (k : Int)) dk.S.length with h | ⟨j, h1, h2, h3⟩
 ·exfalso
  have key : ∀ k, k ≤ dk.S.length → k ≤ 2 + usedL st dk.S.length k + (st.fresh.filter fun x => decide (x < (k : Int))).length := by
   intro k
   induction k with
   | zero => intro _; omega
   | succ k ih =>
    intro hk;have hi := ih (by omega);unfold usedL
    have hmono : (st.fresh.filter fun x => decide (x < (k : Int))).length ≤ (st.fresh.filter fun x => decide (x < ((k + 1 : Nat) : Int))).length := by
     have e : (st.fresh.filter fun x => decide (x < (k : Int))) = (st.fresh.filter fun x => decide (x < ((k + 1 : Nat) : Int))).filter fun x => decide (x < (k : Int)) := by
      rw [List.filter_filter]; congr 1; funext x; rw [Bool.eq_iff_iff]; simp; omega
     rw [e]; exact List.length_filter_le _ _
    by_cases h2 : 2 ≤ k
    ·have hf := h k (by omega)
     simp only [h2, decide_true, Bool.true_and] at hf;unfold freeB at hf
     cases hu : hasB st.h.used (k : Int) with
     | true => rw [if_pos ⟨h2, rfl⟩]; omega
     | false =>
      rw [hu] at hf;simp at hf;have := filter_lt_len st.fresh g.fn k hf;rw [if_neg (by simp)]; omega
    ·rw [if_neg (fun hx => h2 hx.1)]; omega
  have hk := key dk.S.length (Nat.le_refl _);have := List.length_filter_le (fun x => decide (x < (dk.S.length : Int))) st.fresh;unfold Room usedN at hr;omega
 ·simp only [Bool.and_eq_true, decide_eq_true_eq] at h2
  refine ⟨j, h2.1, by omega, fun k hk hkj => ?_, h2.2⟩;have := h3 k hkj
  simpa [hk] using this
def ShS.take (st : ShS) (j : Nat) : ShS := { st with fresh := st.fresh ++ [(j : Int)] }
theorem take_good {dk : DkS} {st : ShS} (g : Good dk st) (j : Nat) (h2 : 2 ≤ j) (hj : (j : Int) < (dk.S.length : Int)) (hf : freeB st (j : Int) = true) :
  To dk st dk (st.take j) ∧ ¬ Live st (j : Int) ∧ (∀ x, Live (st.take j) x ↔ x = (j : Int) ∨ Live st x) ∧ ∀ k, Room dk st (k + 1) → Room dk (st.take j) k := by
 unfold freeB at hf;simp only [Bool.and_eq_true, Bool.not_eq_true', decide_eq_false_iff_not] at hf;refine ⟨⟨⟨g.du, g.df, g.few, g.least, g.su, fun x hx => ?_, ?_, g.ub, g.gb⟩, rfl, rfl, fun _ _ => rfl⟩, ?_, fun x => ?_, fun k hk => ?_⟩
 ·rcases List.mem_append.1 hx with hx | hx
  ·exact g.fb x hx
  ·rw [List.mem_singleton] at hx; subst hx; exact ⟨by omega, hj, hf.1⟩
 ·show (st.fresh ++ [(j : Int)]).Nodup
  rw [List.nodup_append];refine ⟨g.fn, by simp, fun a ha b hb => ?_⟩;rw [List.mem_singleton] at hb; subst hb;exact fun e => hf.2 (e ▸ ha)
 ·rintro (h | h)
  ·exact hf.2 h
  ·rw [hf.1] at h; exact absurd h.1 (by decide)
 ·show (x ∈ st.fresh ++ [(j : Int)] ∨ _) ↔ _
  rw [List.mem_append, List.mem_singleton];unfold Live;constructor
  ·rintro ((h | h) | h)
   ·exact .inr (.inl h)
   ·exact .inl h
   ·exact .inr (.inr h)
  ·rintro (h | h | h)
   ·exact .inl (.inr h)
   ·exact .inl (.inl h)
   ·exact .inr h
 ·show usedN (st.take j) dk.S.length + (st.fresh ++ [(j : Int)]).length + 2 + k ≤ dk.S.length
  have e : usedN (st.take j) dk.S.length = usedN st dk.S.length := by
   unfold usedN
   have : ∀ m, usedL (st.take j) dk.S.length m = usedL st dk.S.length m := by
    intro m
    induction m with
    | zero => rfl
    | succ m ih => unfold usedL; rw [ih]; rfl
   exact this _
  rw [e, List.length_append, List.length_singleton];unfold Room at hk; omega
theorem usedN_h (st st' : ShS) (n : Nat) (e : st'.h = st.h) : usedN st' n = usedN st n := by
 unfold usedN
 have : ∀ m, usedL st' n m = usedL st n m := by
  intro m
  induction m with
  | zero => rfl
  | succ m ih => unfold usedL; rw [ih, e]
 exact this _
theorem give_good {dk : DkS} {st : ShS} (g : Good dk st) (p : Int) (hl : Live st p) :
  (st.give p).2 = 0 ∧ To dk st dk (st.give p).1 ∧ (∀ x, Live (st.give p).1 x ↔ x ≠ p ∧ Live st x) ∧ ∀ k, Room dk st k → Room dk (st.give p).1 k := by
 unfold ShS.give;rw [if_neg (by rw [g.su]; decide)]
 by_cases hf : p ∈ st.fresh
 ·rw [if_pos hf]
  refine ⟨rfl, ⟨⟨g.du, g.df, g.few, g.least, g.su, fun x hx => g.fb x (List.mem_filter.1 hx).1, g.fn.filter _, g.ub, g.gb⟩, rfl, rfl, fun _ _ => rfl⟩, fun x => ?_, fun k hk => ?_⟩
  ·show (x ∈ st.fresh.filter _ ∨ _) ↔ _
   rw [List.mem_filter];unfold Live;simp only [decide_eq_true_eq];constructor
   ·rintro (h | h)
    ·exact ⟨h.2, .inl h.1⟩
    ·refine ⟨fun e => ?_, .inr h⟩
     subst e;have := (g.fb x hf).2.2;have h1 : hasB st.h.used x = true := h.1;rw [this] at h1; cases h1
   ·rintro ⟨h1, h | h⟩
    ·exact .inl ⟨h, h1⟩
    ·exact .inr h
  ·unfold Room at *
   have := List.length_filter_le (fun x => decide (x ≠ p)) st.fresh;rw [usedN_h st { st with fresh := st.fresh.filter fun x => decide (x ≠ p) } dk.S.length rfl]
   dsimp only at *
   omega
 ·rw [if_neg hf]
  have hu : hasB st.h.used p = true ∧ p ∉ st.given := hl.resolve_left hf;rw [if_pos hu];refine ⟨rfl, ⟨⟨g.du, g.df, g.few, g.least, g.su, g.fb, g.fn, g.ub, fun x hx => ?_⟩, rfl, rfl, fun _ _ => rfl⟩, fun x => ?_, fun k hk => ?_⟩
  ·rcases List.mem_append.1 hx with hx | hx
   ·exact g.gb x hx
   ·rw [List.mem_singleton] at hx; subst hx; exact hu.1
  ·show (x ∈ st.fresh ∨ (hasB st.h.used x = true ∧ x ∉ st.given ++ [p])) ↔ _
   unfold Live;simp only [List.mem_append, List.mem_singleton, not_or];constructor
   ·rintro (h | h)
    ·exact ⟨fun e => hf (e ▸ h), .inl h⟩
    ·exact ⟨h.2.2, .inr ⟨h.1, h.2.1⟩⟩
   ·rintro ⟨h1, h | h⟩
    ·exact .inl h
    ·exact .inr ⟨h.1, h.2, h1⟩
  ·unfold Room at *
   rw [usedN_h st { st with given := st.given ++ [p] } dk.S.length rfl];exact hk
def updR (R : Int → Option Nod) (q : Int) (n : Nod) : Int → Option Nod := fun p => if p = q then some n else R p
theorem write_good {dk : DkS} {st : ShS} (g : Good dk st) (p : Int) (hp : p ∈ st.fresh) (n : Nod) (hn : rightN n = true) (ho : NodOk n) :
  (st.write dk p 2 (encN n)).2.2 = 0 ∧ (st.write dk p 2 (encN n)).2.1 = st ∧ To dk st (st.write dk p 2 (encN n)).1 st ∧ ∀ x, Rn (st.write dk p 2 (encN n)).1 x = updR (Rn dk) p n x := by
 have hr := (rightN_iff n).1 hn;have hpl := (plainB_iff n).1 hr.1;have hsz : (encN n).size ≤ 240 := by rw [enc_size n hr.2.1 ho hpl.2.1 hpl.2.2]; exact hr.2.2.2
 obtain ⟨f1, f2, f3⟩ := g.fb p hp;obtain ⟨m, rfl⟩ := Int.eq_ofNat_of_zero_le (show 0 ≤ p by omega);have hm : m < dk.S.length := by omega
 have hw := pgWr_ok dk m 2 (encN n) g.du (by rw [g.df]; decide) hm (by decide) (by decide) hsz
 have e : st.write dk (m : Int) 2 (encN n) = (dk.wrote m (pgL 2 (encN n).data.toList), st, 0) := by
  unfold ShS.write;rw [if_neg (by rw [g.su]; decide), if_neg (fun h => h hp)];have hw' : pgWr dk (m : Int) 2 (encN n) = (dk.wrote m (pgL 2 (encN n).data.toList), 0) := hw;rw [hw'];unfold ShS.told;simp
 rw [e];have hS := wrote_S dk m (pgL 2 (encN n).data.toList);have hU := wrote_up dk m (pgL 2 (encN n).data.toList);have hF := wrote_fuse dk m (pgL 2 (encN n).data.toList);have hL : (dk.wrote m (pgL 2 (encN n).data.toList)).S.length = dk.S.length := by rw [hS, List.length_set]
 refine ⟨rfl, rfl, ⟨⟨hU.trans g.du, by rw [hF, g.df]; decide, by rw [hL]; exact g.few, by rw [hL]; exact g.least, g.su, fun x hx => by rw [hL]; exact g.fb x hx, g.fn, fun x hx => by rw [hL]; exact g.ub x hx, g.gb⟩, hL, rfl, fun k hk => ?_⟩, fun x => ?_⟩
 ·show (dk.wrote m _).S[k]? = _
  rw [hS, List.getElem?_set_ne];intro hx;subst hx
  rcases hk with hk | hk
  ·omega
  ·rw [f3] at hk; cases hk
 ·show Rn (dk.wrote m _) x = _
  unfold updR
  by_cases hx : x = (m : Int)
  ·subst hx
   rw [if_pos rfl];have hg : (dk.wrote m (pgL 2 (encN n).data.toList)).S[m]? = some (pgL 2 (encN n).data.toList) := by rw [hS, List.getElem?_set_self hm]
   obtain ⟨r1, r2, r3⟩ := rd_page _ m 2 (encN n) (hU.trans g.du) hg (by decide) (by decide) hsz;unfold Rn;rw [if_pos ⟨f1, by rw [hL]; exact f2, r1, r2⟩, r3];exact dec_enc n ho hn
  ·rw [if_neg hx]
   refine Rn_eq g.du (hU.trans g.du) hL x fun h2 => ?_
   rw [hS, List.getElem?_set_ne];omega
theorem room_to {dk dk' : DkS} {st : ShS} (h : To dk st dk' st) (k : Nat) : Room dk' st k ↔ Room dk st k := by unfold Room; rw [h.len]
def LiveL (st : ShS) (L : List Int) : Prop := L.Nodup ∧ ∀ x, x ∈ L ↔ Live st x
theorem LiveL.perm {st : ShS} {L L' : List Int} (h : LiveL st L) (p : L.Perm L') : LiveL st L' :=
 ⟨p.nodup_iff.1 h.1, fun x => (p.mem_iff).symm.trans (h.2 x)⟩
theorem LiveL.rng {dk : DkS} {st : ShS} {L : List Int} (h : LiveL st L) (g : Good dk st) {x : Int} (hx : x ∈ L) : 2 ≤ x ∧ x < 640 := by
 have := g.few
 rcases (h.2 x).1 hx with h1 | h1
 ·have := g.fb x h1; omega
 ·have := g.ub x h1.1; omega
structure Laid (dk : DkS) (st : ShS) (p : Int) (N : Nod) (dk' : DkS) (st' : ShS) (q : Int) : Prop where
 tt : To dk st dk' st'
 rd : Rn dk' q = some N
 lv : ∀ L, LiveL st (p :: L) → LiveL st' (q :: L) ∧ ∀ x ∈ L, Rn dk' x = Rn dk x
 lo : 2 ≤ q
 hi : q < 640
structure Placed (dk : DkS) (st : ShS) (N : Nod) (dk' : DkS) (st' : ShS) (q : Int) : Prop where
 tt : To dk st dk' st'
 rd : Rn dk' q = some N
 lv : ∀ L, LiveL st L → LiveL st' (q :: L) ∧ ∀ x ∈ L, Rn dk' x = Rn dk x
 lo : 2 ≤ q
 hi : q < 640
structure Given (dk : DkS) (st : ShS) (p : Int) (st' : ShS) : Prop where
 tt : To dk st dk st'
 lv : ∀ L, LiveL st (p :: L) → LiveL st' L
def NB (N : Nod) (z : Nat) : Prop := (∀ v ∈ N.V, v.size ≤ 40) ∧ (∀ c ∈ N.C, 2 ≤ c ∧ c < 640) ∧ sizeN N ≤ z
theorem NB.of_right {N : Nod} (h : rightN N = true) : NB N 240 := by
 have h1 := (rightN_iff N).1 h;have h2 := (plainB_iff N).1 h1.1;exact ⟨h2.2.1, h2.2.2, h1.2.2.2⟩
def AtI (dk : DkS) (st : ShS) (fs : List Frame) (h : Nat) (p : Int) (N : Nod) (E : List Ent) : Prop :=
 ∃ FL FR PC F P, Ctx (Rn dk) fs h FL FR PC ∧ NodT (Rn dk) h N F P ∧ SortM (FL ++ F ++ FR) ∧ entsM (FL ++ F ++ FR) = E ∧ LiveL st (p :: (PC ++ P))
def UpI (dk : DkS) (st : ShS) (fs : List Frame) (h : Nat) (KM : List Int) (QM : List Kid) (E : List Ent) : Prop :=
 ∃ FL FR PC, Ctx (Rn dk) fs h FL FR PC ∧ QM.length = KM.length + 1 ∧ (∀ q ∈ QM, IsT (Rn dk) h q.p q.F q.P) ∧ SortM (FL ++ interM KM QM ++ FR) ∧ entsM (FL ++ interM KM QM ++ FR) = E ∧ LiveL st (PC ++ kPs QM)
def GR (g1 g2 g3 : Int) (KM : List Int) (QM : List Kid) : Prop :=
 (∃ q, KM = [] ∧ QM = [q] ∧ g1 = q.p ∧ g2 = 0) ∨ (∃ q1 q2, KM = [g3] ∧ QM = [q1, q2] ∧ g1 = q1.p ∧ g2 = q2.p ∧ 2 ≤ g2)
theorem AtI.right {dk : DkS} {st : ShS} {fs : List Frame} {h : Nat} {p : Int} {N : Nod} {E : List Ent} (ha : AtI dk st fs h p N E) (hb : NB N 240) (hk : N.K ≠ []) : rightN N = true := by
 obtain ⟨FL, FR, PC, F, P, h1, h2, h3, h4, h5⟩ := ha;exact right_of h2 (SortM_append.1 (SortM_append.1 h3).1).2.1 hb.1 hb.2.1 hk hb.2.2
theorem AtI.whole {dk : DkS} {st : ShS} {fs : List Frame} {h : Nat} {p : Int} {N : Nod} {E : List Ent} (ha : AtI dk st fs h p N E) : wholeB N = true := by
 obtain ⟨FL, FR, PC, F, P, h1, h2, h3, h4, h5⟩ := ha;exact whole_of h2
theorem AtI.live {dk : DkS} {st : ShS} {fs : List Frame} {h : Nat} {p : Int} {N : Nod} {E : List Ent} (ha : AtI dk st fs h p N E) : Live st p := by
 obtain ⟨FL, FR, PC, F, P, h1, h2, h3, h4, h5⟩ := ha;exact (h5.2 p).1 (by simp)
theorem lay_one {dk dk' : DkS} {st st' : ShS} {fs : List Frame} {h : Nat} {p q : Int} {N : Nod} {E : List Ent} (ha : AtI dk st fs h p N E) (hk : N.K ≠ []) (hl : Laid dk st p N dk' st' q) :
  ∃ QM, UpI dk' st' fs h [] QM E ∧ GR q 0 0 [] QM := by
 obtain ⟨FL, FR, PC, F, P, h1, h2, h3, h4, h5⟩ := ha;obtain ⟨l1, l2⟩ := hl.lv _ h5;refine ⟨[⟨q, F, q :: P⟩], ⟨FL, FR, PC, Ctx_congr fs h1 (fun x hx => l2 x (by simp [hx])), rfl, ?_, h3, h4, ?_⟩, .inl ⟨_, rfl, rfl, rfl, rfl⟩⟩
 ·intro k hk'
  rw [List.mem_singleton] at hk'; subst hk';exact ⟨N, P, hl.rd, hk, NodT_congr h h2 (fun x hx => l2 x (by simp [hx])), rfl⟩
 ·have e : kPs [⟨q, F, q :: P⟩] = q :: P := by simp [kPs]
  rw [e];exact l1.perm List.perm_middle.symm
theorem lay_two {dk dk1 dk' : DkS} {st st1 st' : ShS} {fs : List Frame} {h : Nat} {p q1 q2 mid : Int} {N : Nod} {E : List Ent} (ha : AtI dk st fs h p N E) (hl : leastN N.leaf ≤ N.K.length) (hm : N.K[cutN N]? = some mid)
  (h1 : Laid dk st p (aheadN N (cutN N)) dk1 st1 q1) (h2 : Placed dk1 st1 (behindN N (cutN N)) dk' st' q2) :
  ∃ QM, UpI dk' st' fs h [mid] QM E ∧ GR q1 q2 mid [mid] QM := by
 obtain ⟨FL, FR, PC, F, P, c1, c2, c3, c4, c5⟩ := ha;obtain ⟨mid', FA, FB, PA, PB, s1, s2, s3, s4, s5, s6, s7, s8⟩ := split_T c2 hl;rw [hm] at s1; injection s1 with s1; subst s1;obtain ⟨l1, l2⟩ := h1.lv _ c5;obtain ⟨m1, m2⟩ := h2.lv _ l1;have eq : ∀ x ∈ PC ++ P, Rn dk' x = Rn dk x := fun x hx => (m2 x (List.mem_cons_of_mem _ hx)).trans (l2 x hx)
 refine ⟨[⟨q1, FA, q1 :: PA⟩, ⟨q2, FB, q2 :: PB⟩], ⟨FL, FR, PC, Ctx_congr fs c1 (fun x hx => eq x (by simp [hx])), rfl, ?_, ?_, ?_, ?_⟩, .inr ⟨_, _, rfl, rfl, rfl, rfl, h2.lo⟩⟩
 ·intro k hk
  simp only [List.mem_cons, List.not_mem_nil, or_false] at hk
  rcases hk with rfl | rfl
  ·refine ⟨_, PA, (m2 q1 (by simp)).trans h1.rd, s4, NodT_congr h s2 (fun x hx => eq x (by rw [s6]; simp [hx])), rfl⟩
  ·exact ⟨_, PB, h2.rd, s5, NodT_congr h s3 (fun x hx => eq x (by rw [s6]; simp [hx])), rfl⟩
 ·rw [interM_two]; exact s8 FL FR c3
 ·rw [interM_two, ← c4]
  rw [entsM_append, entsM_append, s7, entsM_append, entsM_append]
 ·have e : kPs [⟨q1, FA, q1 :: PA⟩, ⟨q2, FB, q2 :: PB⟩] = q1 :: PA ++ q2 :: PB := by simp [kPs]
  rw [e];refine m1.perm ?_;rw [s6]
  have p1 : (q2 :: q1 :: (PC ++ (PA ++ PB))).Perm (q1 :: (PC ++ (PA ++ q2 :: PB))) := by
   refine (List.Perm.swap _ _ _).trans (List.Perm.cons _ ?_);rw [← List.append_assoc, ← List.append_assoc];exact List.perm_middle.symm
  exact p1.trans List.perm_middle.symm
theorem up_next {dk : DkS} {st : ShS} {f : Frame} {fs : List Frame} {h : Nat} {KM : List Int} {QM : List Kid} {E : List Ent} (hu : UpI dk st (f :: fs) h KM QM E) (N : Nod) (n1 : N.leaf = false) (n2 : N.V = []) (n3 : N.K = f.KA ++ KM ++ f.KB) (n4 : N.C = kP f.A ++ kP QM ++ kP f.B) : AtI dk st fs (h + 1) f.page N E := by
 obtain ⟨FL, FR, PC, ⟨c0, FL', FR', PC', c1, c2, c3, c4⟩, h1, h2, h3, h4, h5⟩ := hu;refine ⟨FL', FR', PC', _, _, c1, frame_up c0 KM QM h1 h2 N n1 n2 n3 n4, ?_, ?_, ?_⟩
 ·rw [c2, c3] at h3; simpa using h3
 ·rw [c2, c3] at h4; simpa using h4
 ·rw [c4] at h5
  refine h5.perm ?_;rw [List.cons_append];refine List.Perm.cons _ ?_
  have : (kPs f.A ++ kPs f.B ++ PC' ++ kPs QM).Perm (PC' ++ (kPs f.A ++ kPs f.B ++ kPs QM)) := by
   rw [List.append_assoc (kPs f.A ++ kPs f.B)];refine ((List.perm_append_comm (l₁ := kPs f.A ++ kPs f.B) (l₂ := PC' ++ kPs QM))).trans ?_;rw [List.append_assoc];exact List.Perm.append_left _ List.perm_append_comm
  refine this.trans (List.Perm.append_left _ ?_);rw [List.append_assoc, List.append_assoc];exact List.Perm.append_left _ List.perm_append_comm
theorem put_at {dk : DkS} {st : ShS} {fs : List Frame} {p : Int} {M : Nod} {FL FR F : List Mk} {PC P : List Int} (key : Int) (v : ByteArray) (hc : Ctx (Rn dk) fs 0 FL FR PC) (ht : NodT (Rn dk) 0 M F P) (hs : SortM (FL ++ F ++ FR)) (hL : ∀ m ∈ FL, ordM m < 2 * key + 1) (hR : ∀ m ∈ FR, 2 * key + 1 < ordM m) (hl : LiveL st (p :: (PC ++ P))) :
  AtI dk st fs 0 p (putN M key v) (insE key v (entsM (FL ++ F ++ FR))) := by
 obtain ⟨s1, s2, s3⟩ := SortM_append.1 hs;obtain ⟨i, X, Y, hX, hY, hh⟩ := leaf_place ht (SortM_append.1 s1).2.1 key;have hP : P = [] := ht.2.2.2.2
 have small : ∀ Z : List Mk, (∀ m ∈ Z, ordM m < 2 * key + 1) → ∀ e ∈ entsM Z, e.1 < key := by
  intro Z hZ e he;obtain ⟨m, hm, hme⟩ := List.mem_filterMap.1 he;have := hZ m hm;obtain ⟨a, b⟩ := m
  cases b with
  | none => simp [entM] at hme
  | some b => simp [entM] at hme; subst hme; rw [ord_ent] at this; show a < key; omega
 have great : ∀ Z : List Mk, (∀ m ∈ Z, 2 * key + 1 < ordM m) → ∀ e ∈ entsM Z, key < e.1 := by
  intro Z hZ e he;obtain ⟨m, hm, hme⟩ := List.mem_filterMap.1 he;have := hZ m hm;obtain ⟨a, b⟩ := m
  cases b with
  | none => simp [entM] at hme
  | some b => simp [entM] at hme; subst hme; rw [ord_ent] at this; show key < a; omega
 have hLX : ∀ m ∈ FL ++ X, ordM m < 2 * key + 1 := fun m hm => (List.mem_append.1 hm).elim (hL m) (hX m)
 have hYR : ∀ m ∈ Y ++ FR, 2 * key + 1 < ordM m := fun m hm => (List.mem_append.1 hm).elim (hY m) (hR m)
 have sort : SortM (FL ++ X) → SortM (Y ++ FR) → SortM (FL ++ (X ++ (key, some v) :: Y) ++ FR) := by
  intro a b
  have : SortM ((FL ++ X) ++ ((key, some v) :: (Y ++ FR))) := by
   refine SortM_append.2 ⟨a, SortM_cons.2 ⟨fun m hm => by rw [ord_ent]; exact hYR m hm, b⟩, fun x hx y hy => ?_⟩;have h1 := hLX x hx
   rcases List.mem_cons.1 hy with rfl | hy
   ·rw [ord_ent]; exact h1
   ·have := hYR y hy; omega
  simpa using this
 have ents : entsM (FL ++ (X ++ (key, some v) :: Y) ++ FR) = entsM (FL ++ X) ++ (key, v) :: entsM (Y ++ FR) := by
  simp [entsM_append, entsM_ent]
 rcases hh with ⟨old, _, _, _, e1, e2, _⟩ | ⟨_, e1, e2⟩
 ·refine ⟨FL, FR, PC, X ++ (key, some v) :: Y, [], hc, e2 v, ?_, ?_, by rw [hP] at hl; exact hl⟩
  ·rw [e1] at hs
   have hs' : SortM ((FL ++ X) ++ ((key, some old) :: (Y ++ FR))) := by simpa using hs
   obtain ⟨a, b, c⟩ := SortM_append.1 hs';exact sort a (SortM_cons.1 b).2
  ·rw [ents, e1]
   have : entsM (FL ++ (X ++ (key, some old) :: Y) ++ FR) = entsM (FL ++ X) ++ (key, old) :: entsM (Y ++ FR) := by simp [entsM_append, entsM_ent]
   rw [this, insE_old _ _ _ _ _ (small _ hLX) (great _ hYR)]
 ·refine ⟨FL, FR, PC, X ++ (key, some v) :: Y, [], hc, e2 v, ?_, ?_, by rw [hP] at hl; exact hl⟩
  ·rw [e1] at hs
   have hs' : SortM ((FL ++ X) ++ (Y ++ FR)) := by simpa using hs
   obtain ⟨a, b, c⟩ := SortM_append.1 hs';exact sort a b
  ·rw [ents, e1]
   have : entsM (FL ++ (X ++ Y) ++ FR) = entsM (FL ++ X) ++ entsM (Y ++ FR) := by simp [entsM_append]
   rw [this, insE_new _ _ _ _ (small _ hLX) (great _ hYR)]
def PairI (dk : DkS) (st : ShS) (fs : List Frame) (h : Nat) (pg : Int) (KA : List Int) (k : Int) (KB : List Int) (A B : List Kid) (pl : Int) (NL : Nod) (pr : Int) (NR : Nod) (E : List Ent) : Prop :=
 ∃ FL FR PC F1 P1 F2 P2, Ctx (Rn dk) fs (h + 1) FL FR PC ∧ A.length = KA.length ∧ B.length = KB.length ∧ (∀ q ∈ A, IsT (Rn dk) h q.p q.F q.P) ∧ (∀ q ∈ B, IsT (Rn dk) h q.p q.F q.P) ∧ NodT (Rn dk) h NL F1 P1 ∧ NodT (Rn dk) h NR F2 P2 ∧
  SortM (FL ++ (interL KA A ++ (F1 ++ (k, none) :: F2) ++ interR KB B) ++ FR) ∧ entsM (FL ++ (interL KA A ++ (F1 ++ (k, none) :: F2) ++ interR KB B) ++ FR) = E ∧ LiveL st (pl :: pr :: pg :: (PC ++ (kPs A ++ (P1 ++ P2) ++ kPs B)))
theorem perm_in (a : Int) (Y P Z : List Int) : (a :: (Y ++ (P ++ Z))).Perm (Y ++ (P ++ a :: Z)) := by
 rw [← List.append_assoc, ← List.append_assoc];exact List.perm_middle.symm
theorem perm_a (p f : Int) (X Y Z P : List Int) (q : Int) (PM : List Int) : (p :: (f :: (X ++ (q :: PM ++ Y) ++ Z) ++ P)).Perm (p :: q :: f :: (Z ++ (X ++ (P ++ PM) ++ Y))) := by
 refine List.Perm.cons _ ?_
 have : (f :: (X ++ (q :: PM ++ Y) ++ Z) ++ P).Perm (f :: q :: (Z ++ (X ++ (P ++ PM) ++ Y))) := by
  rw [List.cons_append];refine List.Perm.cons _ ?_;have e1 : X ++ (q :: PM ++ Y) ++ Z ++ P = X ++ q :: (PM ++ Y ++ Z ++ P) := by simp
  rw [e1];refine List.perm_middle.trans (List.Perm.cons _ ?_);have e2 : Z ++ (X ++ (P ++ PM) ++ Y) = Z ++ (X ++ (P ++ (PM ++ Y))) := by simp
  have e3 : X ++ (PM ++ Y ++ Z ++ P) = X ++ ((PM ++ Y) ++ (Z ++ P)) := by simp
  rw [e2, e3];have h1 : (X ++ ((PM ++ Y) ++ (Z ++ P))).Perm (X ++ ((Z ++ P) ++ (PM ++ Y))) := List.Perm.append_left _ List.perm_append_comm
  have h2 : (X ++ ((Z ++ P) ++ (PM ++ Y))).Perm (Z ++ (X ++ (P ++ (PM ++ Y)))) := by
   rw [List.append_assoc Z P, ← List.append_assoc X Z, ← List.append_assoc Z X];exact List.Perm.append_right _ List.perm_append_comm
  exact h1.trans h2
 exact this.trans (List.Perm.swap _ _ _)
theorem perm_b (p f : Int) (X Y Z P : List Int) (q : Int) (PM : List Int) : (p :: (f :: (X ++ q :: PM ++ Y ++ Z) ++ P)).Perm (q :: p :: f :: (Z ++ (X ++ (PM ++ P) ++ Y))) := by
 have e : X ++ q :: PM ++ Y ++ Z = X ++ (q :: PM ++ Y) ++ Z := by simp
 rw [e];refine (perm_a p f X Y Z P q PM).trans ((List.Perm.swap _ _ _).trans (List.Perm.cons _ (List.Perm.cons _ (List.Perm.cons _ (List.Perm.append_left _ ?_)))));exact List.Perm.append_right _ (List.Perm.append_left _ List.perm_append_comm)
theorem pair_right {dk : DkS} {st : ShS} {f : Frame} {fs : List Frame} {h : Nat} {p k : Int} {N : Nod} {E : List Ent} {KB : List Int} {b : Kid} {B : List Kid} (ha : AtI dk st (f :: fs) h p N E) (hk : f.KB = k :: KB) (hb : f.B = b :: B) :
  ∃ M, Rn dk b.p = some M ∧ M.K ≠ [] ∧ PairI dk st fs h f.page f.KA k KB f.A B p N b.p M E := by
 obtain ⟨FL, FR, PC, F, P, ⟨c0, FL', FR', PC', c1, c2, c3, c4⟩, h2, h3, h4, h5⟩ := ha;obtain ⟨M, PM, m1, m2, m3, m4⟩ := c0.kb b (by rw [hb]; simp);have hlb := c0.b;rw [hk, hb] at hlb;rw [hk, hb, interR_cons] at c3;refine ⟨M, m1, m2, FL', FR', PC', F, P, b.F, PM, c1, c0.a, by simpa using hlb, c0.ka, fun q hq => c0.kb q (by rw [hb]; simp [hq]), h2, m3, ?_, ?_, ?_⟩
 ·rw [c2, c3] at h3; simpa using h3
 ·rw [c2, c3] at h4; simpa using h4
 ·rw [c4, hb, kPs_cons, m4] at h5
  exact h5.perm (by simpa using perm_a p f.page (kPs f.A) (kPs B) PC' P b.p PM)
theorem pair_left {dk : DkS} {st : ShS} {f : Frame} {fs : List Frame} {h : Nat} {p k : Int} {N : Nod} {E : List Ent} {KA : List Int} {a : Kid} {A : List Kid} (ha : AtI dk st (f :: fs) h p N E) (hk : f.KA = KA ++ [k]) (hb : f.A = A ++ [a]) :
  ∃ M, Rn dk a.p = some M ∧ M.K ≠ [] ∧ PairI dk st fs h f.page KA k f.KB A f.B a.p M p N E := by
 obtain ⟨FL, FR, PC, F, P, ⟨c0, FL', FR', PC', c1, c2, c3, c4⟩, h2, h3, h4, h5⟩ := ha;obtain ⟨M, PM, m1, m2, m3, m4⟩ := c0.ka a (by rw [hb]; simp);have hla := c0.a;rw [hk, hb] at hla;have hla' : A.length = KA.length := by simpa using hla
 have eL : interL (KA ++ [k]) (A ++ [a]) = interL KA A ++ (a.F ++ [(k, none)]) := by
  unfold interL;rw [List.zipWith_append hla'.symm];simp
 rw [hk, hb, eL] at c2;refine ⟨M, m1, m2, FL', FR', PC', a.F, PM, F, P, c1, hla', c0.b, fun q hq => c0.ka q (by rw [hb]; simp [hq]), c0.kb, m3, h2, ?_, ?_, ?_⟩
 ·rw [c2, c3] at h3; simpa using h3
 ·rw [c2, c3] at h4; simpa using h4
 ·rw [c4, hb, kPs_append, kPs_cons, m4] at h5
  exact h5.perm (by simpa [kPs] using perm_b p f.page (kPs A) (kPs f.B) PC' P a.p PM)
theorem PairI.both {dk : DkS} {st : ShS} {fs : List Frame} {h : Nat} {pg k pl pr : Int} {KA KB : List Int} {A B : List Kid} {NL NR : Nod} {E : List Ent} (hp : PairI dk st fs h pg KA k KB A B pl NL pr NR E) :
  NL.leaf = decide (h = 0) ∧ NR.leaf = decide (h = 0) ∧ wholeB NL = true ∧ wholeB NR = true ∧ wholeB (bothN NL k NR) = true ∧ (bothN NL k NR).leaf = NL.leaf ∧ Live st pl ∧ Live st pr ∧ pl ≠ pr := by
 obtain ⟨FL, FR, PC, F1, P1, F2, P2, c1, c2, c3, c4, c5, h1, h2, h3, h4, h5⟩ := hp;obtain ⟨F, t1, _⟩ := both_T h1 h2 k;refine ⟨leaf_of h1, leaf_of h2, whole_of h1, whole_of h2, whole_of t1, rfl, (h5.2 pl).1 (by simp), (h5.2 pr).1 (by simp), ?_⟩;have := h5.1;rw [List.nodup_cons] at this;exact fun e => this.1 (by rw [e]; simp)
theorem merge_one {dk dk1 : DkS} {st st1 st' : ShS} {fs : List Frame} {h : Nat} {pg k pl pr q : Int} {KA KB : List Int} {A B : List Kid} {NL NR N : Nod} {E : List Ent} (hp : PairI dk st fs h pg KA k KB A B pl NL pr NR E) (hk : NR.K ≠ [] ∨ NL.K ≠ [])
  (hl : Laid dk st pl (bothN NL k NR) dk1 st1 q) (hg : Given dk1 st1 pr st') (n1 : N.leaf = false) (n2 : N.V = []) (n3 : N.K = KA ++ KB) (n4 : N.C = kP A ++ [q] ++ kP B) : AtI dk1 st' fs (h + 1) pg N E := by
 obtain ⟨FL, FR, PC, F1, P1, F2, P2, c1, c2, c3, c4, c5, h1, h2, h3, h4, h5⟩ := hp;obtain ⟨F, t1, t2, t3⟩ := both_T h1 h2 k;obtain ⟨l1, l2⟩ := hl.lv _ h5;have l3 := hg.lv _ (l1.perm (List.Perm.swap _ _ _))
 have kne : (bothN NL k NR).K ≠ [] := by
  unfold bothN;intro e;have := congrArg List.length e;simp only [List.length_append, List.length_nil] at this
  rcases hk with hk | hk
  ·have := List.length_pos_iff.2 hk; omega
  ·have := List.length_pos_iff.2 hk; omega
 have cA : ∀ r ∈ A, IsT (Rn dk1) h r.p r.F r.P := fun r hr => IsT_congr (c4 r hr) fun x hx => l2 x (by have : x ∈ kPs A := mem_kPs.2 ⟨r, hr, hx⟩; simp [this])
 have cB : ∀ r ∈ B, IsT (Rn dk1) h r.p r.F r.P := fun r hr => IsT_congr (c5 r hr) fun x hx => l2 x (by have : x ∈ kPs B := mem_kPs.2 ⟨r, hr, hx⟩; simp [this])
 have hT : IsT (Rn dk1) h q F (q :: (P1 ++ P2)) := ⟨_, _, hl.rd, kne, NodT_congr h t1 (fun x hx => l2 x (by simp only [List.mem_append] at hx; simp; rcases hx with hx | hx <;> simp [hx])), rfl⟩
 have e0 := interM_mid KA [] KB A [⟨q, F, q :: (P1 ++ P2)⟩] B c2 rfl c3;rw [List.append_nil, interM_one] at e0;refine ⟨FL, FR, PC, interL KA A ++ F ++ interR KB B, kPs A ++ (q :: (P1 ++ P2)) ++ kPs B, Ctx_congr fs c1 (fun x hx => l2 x (by simp [hx])), ?_, ?_, ?_, ?_⟩
 ·refine NodT_succ.2 ⟨n1, n2, A ++ [⟨q, F, q :: (P1 ++ P2)⟩] ++ B, ?_, ?_, ?_, ?_, ?_⟩
  ·rw [n4, kP_append, kP_append]; rfl
  ·rw [n3]; simp [c2, c3]; omega
  ·intro r hr
   simp only [List.mem_append, List.mem_singleton] at hr
   rcases hr with (hr | rfl) | hr
   ·exact cA r hr
   ·exact hT
   ·exact cB r hr
  ·rw [n3, e0]
  ·rw [kPs_append, kPs_append]; simp [kPs]
 ·have := t3 (FL ++ interL KA A) (interR KB B ++ FR) (by simpa using h3)
  simpa using this
 ·rw [← h4]; simp [entsM_append, entsM_sep, t2]
 ·refine l3.perm ?_
  have e1 : PC ++ (kPs A ++ q :: (P1 ++ P2) ++ kPs B) = (PC ++ kPs A) ++ q :: (P1 ++ P2 ++ kPs B) := by simp
  rw [e1];refine (List.Perm.swap _ _ _).trans (List.Perm.cons _ ?_);refine List.Perm.trans ?_ List.perm_middle.symm;refine List.Perm.cons _ ?_;simp
theorem merge_two {dk dk1 dk' : DkS} {st st1 st' : ShS} {fs : List Frame} {h : Nat} {pg k pl pr q1 q2 mid : Int} {KA KB : List Int} {A B : List Kid} {NL NR N : Nod} {E : List Ent} (hp : PairI dk st fs h pg KA k KB A B pl NL pr NR E)
  (hlst : leastN (bothN NL k NR).leaf ≤ (bothN NL k NR).K.length) (hm : (bothN NL k NR).K[cutN (bothN NL k NR)]? = some mid)
  (hl : Laid dk st pl (aheadN (bothN NL k NR) (cutN (bothN NL k NR))) dk1 st1 q1) (hr : Laid dk1 st1 pr (behindN (bothN NL k NR) (cutN (bothN NL k NR))) dk' st' q2)
  (n1 : N.leaf = false) (n2 : N.V = []) (n3 : N.K = KA ++ [mid] ++ KB) (n4 : N.C = kP A ++ [q1, q2] ++ kP B) : AtI dk' st' fs (h + 1) pg N E := by
 obtain ⟨FL, FR, PC, F1, P1, F2, P2, c1, c2, c3, c4, c5, h1, h2, h3, h4, h5⟩ := hp;obtain ⟨F, t1, t2, t3⟩ := both_T h1 h2 k;obtain ⟨mid', FA, FB, PA, PB, s1, s2, s3, s4, s5, s6, s7, s8⟩ := split_T t1 hlst;rw [hm] at s1; injection s1 with s1; subst s1;obtain ⟨l1, l2⟩ := hl.lv _ h5;obtain ⟨m1, m2⟩ := hr.lv _ (l1.perm (List.Perm.swap _ _ _));have eq : ∀ x ∈ PC ++ (kPs A ++ (P1 ++ P2) ++ kPs B), Rn dk' x = Rn dk x := fun x hx => (m2 x (by simp only [List.mem_cons]; exact .inr (.inr hx))).trans (l2 x (by simp only [List.mem_cons]; exact .inr (.inr hx)))
 have cA : ∀ r ∈ A, IsT (Rn dk') h r.p r.F r.P := fun r hr => IsT_congr (c4 r hr) fun x hx => eq x (by have : x ∈ kPs A := mem_kPs.2 ⟨r, hr, hx⟩; simp [this])
 have cB : ∀ r ∈ B, IsT (Rn dk') h r.p r.F r.P := fun r hr => IsT_congr (c5 r hr) fun x hx => eq x (by have : x ∈ kPs B := mem_kPs.2 ⟨r, hr, hx⟩; simp [this])
 have inP : ∀ x, x ∈ PA ++ PB → x ∈ PC ++ (kPs A ++ (P1 ++ P2) ++ kPs B) := fun x hx => by rw [← s6] at hx; simp only [List.mem_append] at hx ⊢; rcases hx with hx | hx <;> simp [hx]
 have hT1 : IsT (Rn dk') h q1 FA (q1 :: PA) := ⟨_, _, (m2 q1 (by simp)).trans hl.rd, s4, NodT_congr h s2 (fun x hx => eq x (inP x (by simp [hx]))), rfl⟩
 have hT2 : IsT (Rn dk') h q2 FB (q2 :: PB) := ⟨_, _, hr.rd, s5, NodT_congr h s3 (fun x hx => eq x (inP x (by simp [hx]))), rfl⟩
 have e0 := interM_mid KA [mid] KB A [⟨q1, FA, q1 :: PA⟩, ⟨q2, FB, q2 :: PB⟩] B c2 rfl c3;rw [interM_two] at e0;refine ⟨FL, FR, PC, interL KA A ++ (FA ++ (mid, none) :: FB) ++ interR KB B, kPs A ++ (q1 :: PA ++ q2 :: PB) ++ kPs B, Ctx_congr fs c1 (fun x hx => eq x (by simp [hx])), ?_, ?_, ?_, ?_⟩
 ·refine NodT_succ.2 ⟨n1, n2, A ++ [⟨q1, FA, q1 :: PA⟩, ⟨q2, FB, q2 :: PB⟩] ++ B, ?_, ?_, ?_, ?_, ?_⟩
  ·rw [n4, kP_append, kP_append]; rfl
  ·rw [n3]; simp [c2, c3]; omega
  ·intro r hr
   simp only [List.mem_append, List.mem_cons, List.not_mem_nil, or_false] at hr
   rcases hr with (hr | rfl | rfl) | hr
   ·exact cA r hr
   ·exact hT1
   ·exact hT2
   ·exact cB r hr
  ·rw [n3, e0]
  ·rw [kPs_append, kPs_append]; simp [kPs]
 ·have a1 := t3 (FL ++ interL KA A) (interR KB B ++ FR) (by simpa using h3)
  have a2 := s8 _ _ a1
  simpa using a2
 ·rw [← h4]
  have : entsM (FA ++ (mid, none) :: FB) = entsM F1 ++ entsM F2 := by rw [s7, t2]
  rw [entsM_append, entsM_append, entsM_append, entsM_append, this];simp [entsM_append, entsM_sep]
 ·refine m1.perm ?_
  have e1 : pg :: (PC ++ (kPs A ++ (P1 ++ P2) ++ kPs B)) = (pg :: (PC ++ kPs A)) ++ (PA ++ (PB ++ kPs B)) := by rw [s6]; simp
  have e2 : pg :: (PC ++ (kPs A ++ (q1 :: PA ++ q2 :: PB) ++ kPs B)) = (pg :: (PC ++ kPs A)) ++ (q1 :: (PA ++ q2 :: (PB ++ kPs B))) := by simp
  rw [e1, e2];refine List.Perm.trans ?_ List.perm_middle.symm;exact (List.Perm.swap _ _ _).trans (List.Perm.cons _ (perm_in _ _ _ _))
theorem del_at {dk : DkS} {st : ShS} {fs : List Frame} {p : Int} {M : Nod} {FL FR F : List Mk} {PC P : List Int} (key : Int) (i : Nat) (hc : Ctx (Rn dk) fs 0 FL FR PC) (ht : NodT (Rn dk) 0 M F P) (hs : SortM (FL ++ F ++ FR)) (hL : ∀ m ∈ FL, ordM m < 2 * key + 1) (hR : ∀ m ∈ FR, 2 * key + 1 < ordM m) (hl : LiveL st (p :: (PC ++ P))) (hf : findN M key = (i, true)) :
  AtI dk st fs 0 p (withoutN M i) (delE key (entsM (FL ++ F ++ FR))) ∧ i < M.K.length := by
 obtain ⟨s1, s2, s3⟩ := SortM_append.1 hs;obtain ⟨j, X, Y, hX, hY, hh⟩ := leaf_place ht (SortM_append.1 s1).2.1 key;have hP : P = [] := ht.2.2.2.2
 have small : ∀ Z : List Mk, (∀ m ∈ Z, ordM m < 2 * key + 1) → ∀ e ∈ entsM Z, e.1 < key := by
  intro Z hZ e he;obtain ⟨m, hm, hme⟩ := List.mem_filterMap.1 he;have := hZ m hm;obtain ⟨a, b⟩ := m
  cases b with
  | none => simp [entM] at hme
  | some b => simp [entM] at hme; subst hme; rw [ord_ent] at this; show a < key; omega
 have great : ∀ Z : List Mk, (∀ m ∈ Z, 2 * key + 1 < ordM m) → ∀ e ∈ entsM Z, key < e.1 := by
  intro Z hZ e he;obtain ⟨m, hm, hme⟩ := List.mem_filterMap.1 he;have := hZ m hm;obtain ⟨a, b⟩ := m
  cases b with
  | none => simp [entM] at hme
  | some b => simp [entM] at hme; subst hme; rw [ord_ent] at this; show key < a; omega
 have hLX : ∀ m ∈ FL ++ X, ordM m < 2 * key + 1 := fun m hm => (List.mem_append.1 hm).elim (hL m) (hX m)
 have hYR : ∀ m ∈ Y ++ FR, 2 * key + 1 < ordM m := fun m hm => (List.mem_append.1 hm).elim (hY m) (hR m)
 rcases hh with ⟨old, e0, e00, _, e1, _, e2⟩ | ⟨e0, _⟩
 ·rw [hf] at e0
  injection e0 with e0 _;subst e0;refine ⟨⟨FL, FR, PC, X ++ Y, [], hc, e2, ?_, ?_, by rw [hP] at hl; exact hl⟩, e00⟩
  ·rw [e1] at hs
   refine List.Pairwise.sublist ?_ hs;exact ((List.Sublist.refl FL).append ((List.Sublist.refl X).append (List.sublist_cons_self _ _))).append (List.Sublist.refl FR)
  ·rw [e1]
   have a1 : entsM (FL ++ (X ++ (key, some old) :: Y) ++ FR) = entsM (FL ++ X) ++ (key, old) :: entsM (Y ++ FR) := by simp [entsM_append, entsM_ent]
   have a2 : entsM (FL ++ (X ++ Y) ++ FR) = entsM (FL ++ X) ++ entsM (Y ++ FR) := by simp [entsM_append]
   rw [a1, a2, delE_old _ _ _ _ (small _ hLX) (great _ hYR)]
 ·rw [hf] at e0
  injection e0 with _ e0
  cases e0
def TreeI (dk : DkS) (st : ShS) (r : Int) (E : List Ent) : Prop :=
 (r = 0 ∧ E = [] ∧ LiveL st []) ∨ ∃ h F P, IsT (Rn dk) h r F P ∧ SortM F ∧ entsM F = E ∧ LiveL st P
theorem top_lay {dk dk' : DkS} {st st' : ShS} {h : Nat} {p q : Int} {N : Nod} {E : List Ent} (ha : AtI dk st [] h p N E) (hk : N.K ≠ []) (hl : Laid dk st p N dk' st' q) : TreeI dk' st' q E := by
 obtain ⟨FL, FR, PC, F, P, ⟨rfl, rfl, rfl⟩, h2, h3, h4, h5⟩ := ha;obtain ⟨l1, l2⟩ := hl.lv _ h5;simp only [List.nil_append, List.append_nil] at h3 h4 l1 l2;exact .inr ⟨h, F, q :: P, ⟨N, P, hl.rd, hk, NodT_congr h h2 l2, rfl⟩, h3, h4, l1⟩
theorem top_leaf {dk : DkS} {st st' : ShS} {h : Nat} {p : Int} {N : Nod} {E : List Ent} (ha : AtI dk st [] h p N E) (hk : N.K = []) (hf : N.leaf = true) (hg : Given dk st p st') : TreeI dk st' 0 E := by
 obtain ⟨FL, FR, PC, F, P, ⟨rfl, rfl, rfl⟩, h2, h3, h4, h5⟩ := ha
 cases h with
 | succ h => rw [h2.1] at hf; cases hf
 | zero =>
  obtain ⟨_, _, _, e1, e2⟩ := h2;have l := hg.lv _ h5;subst e1 e2;rw [hk] at h4;refine .inl ⟨rfl, ?_, l⟩;rw [← h4]; cases N.V <;> rfl
theorem top_kid {dk : DkS} {st st' : ShS} {h : Nat} {p : Int} {N : Nod} {E : List Ent} (ha : AtI dk st [] h p N E) (hk : N.K = []) (hf : N.leaf = false) (hg : Given dk st p st') : ∃ r, N.C = [r] ∧ TreeI dk st' r E := by
 obtain ⟨FL, FR, PC, F, P, ⟨rfl, rfl, rfl⟩, h2, h3, h4, h5⟩ := ha
 cases h with
 | zero => rw [h2.1] at hf; cases hf
 | succ h =>
  obtain ⟨_, _, Q, q1, q2, q3, q4, q5⟩ := NodT_succ.1 h2;have l := hg.lv _ h5;rw [hk] at q2 q4
  match Q, q2 with
  | [q], _ =>
   refine ⟨q.p, q1, .inr ⟨h, q.F, q.P, q3 q (by simp), ?_⟩⟩;subst q4 q5;simp only [kPs, interM, List.map_cons, List.map_nil, List.flatten_cons, List.flatten_nil, List.nil_append, List.append_nil] at h3 h4 l;exact ⟨h3, h4, l⟩
theorem put_one {dk : DkS} {st : ShS} {h : Nat} {QM : List Kid} {E : List Ent} (hu : UpI dk st [] h [] QM E) (g1 g2 g3 : Int) (hg : GR g1 g2 g3 [] QM) : TreeI dk st g1 E := by
 obtain ⟨FL, FR, PC, ⟨rfl, rfl, rfl⟩, h1, h2, h3, h4, h5⟩ := hu
 rcases hg with ⟨q, _, rfl, rfl, _⟩ | ⟨q1, q2, e, _⟩
 ·simp only [kPs, interM, List.map_cons, List.map_nil, List.flatten_cons, List.flatten_nil, List.nil_append, List.append_nil] at h3 h4 h5
  exact .inr ⟨h, q.F, q.P, h2 q (by simp), h3, h4, h5⟩
 ·cases e
theorem put_two {dk dk' : DkS} {st st' : ShS} {h : Nat} {mid q1 q2 r : Int} {QM : List Kid} {E : List Ent} {N : Nod} (hu : UpI dk st [] h [mid] QM E) (hg : GR q1 q2 mid [mid] QM) (n1 : N.leaf = false) (n2 : N.V = []) (n3 : N.K = [mid]) (n4 : N.C = [q1, q2]) (hl : Placed dk st N dk' st' r) : TreeI dk' st' r E := by
 obtain ⟨FL, FR, PC, ⟨rfl, rfl, rfl⟩, h1, h2, h3, h4, h5⟩ := hu;obtain ⟨l1, l2⟩ := hl.lv _ h5;simp only [List.nil_append, List.append_nil] at h3 h4 l1 l2;refine .inr ⟨h + 1, _, r :: kPs QM, ⟨N, kPs QM, hl.rd, by rw [n3]; simp, NodT_congr (h + 1) (NodT_succ.2 ⟨n1, n2, QM, ?_, by rw [n3]; exact h1, h2, rfl, rfl⟩) l2, rfl⟩, by rw [n3]; exact h3, by rw [n3]; exact h4, l1⟩
 rcases hg with ⟨q, e, _⟩ | ⟨a, b, _, rfl, rfl, rfl, _⟩
 ·cases e
 ·rw [n4]; rfl

def RDb (w : World) (g : Nat) (s : ByteArray) (b : Bool) : Prop := w.heap[g]? = some (.cells #[.string s, .bool b] 201)
theorem rnumber_any (g : Nat) (s r : ByteArray) (size v : Int) (w : World) (b : Bool) (h : RDb w g s b) (hv : Hid (takeN s size = v)) (hr : Hid (takeR s size = r)) (c : Bool) (hc : Hid ((b || decide (takeE s size ≠ 0)) = c)) :
  Calls Tryz.prog 154 #[.pointer (some ⟨g, 0, none⟩), .int .i64 size] w fun e w' => e = .returned (.int .u64 v) ∧ RDb w' g r c ∧ Frm (fun k => k = g) w w' := by
 have TA := Hd (fun w => take_any s size w);rw [hv.out, hr.out] at TA;obtain ⟨er, her⟩ : ∃ er, takeE s size = er := ⟨_, rfl⟩
 have hce : (b || decide (er ≠ 0)) = c := by rw [← her]; exact hc.out
 rw [her] at TA;have H := Hd h;have c0 := cl h 0 rfl;clear h hv hr hc her;go_enter Tryz.func154, Tryz.ntmps154;go_wp2_with fail;refine (TA.out _).mono ?_;rintro e w1 ⟨rfl, b1⟩;have h1 : w1.heap[g]? = some (.cells #[.string s, .bool b] 201) := (b1.block g (zl H.out)).trans H.out
 have FIN : Hid (RDb ((w1.setCell ⟨g, 0, none⟩ (.string r)).setCell ⟨g, 1, none⟩ (.bool c)) g r c ∧ Frm (fun k => k = g) w ((w1.setCell ⟨g, 0, none⟩ (.string r)).setCell ⟨g, 1, none⟩ (.bool c))) := Hd
  ⟨by unfold RDb; rw [hss _ _ 1 _ _ _ (hss _ _ 0 _ _ _ h1)]; rfl, (((Frm.of_below (F := fun k => k = g) b1).setCell ⟨g, 0, none⟩ _ (.inl rfl)).setCell ⟨g, 1, none⟩ _ (.inl rfl))⟩
 have d0 := cl h1 0 rfl;have d1 := cl h1 1 rfl;have f0 := ufb h1 0;have f1 := ufb h1 1;clear h1 b1 c0
 cases b
 ·by_cases he : er = 0
  ·subst he
   have hc2 : c = false := by rw [← hce]; rfl
   subst hc2;clear hce;go_wp2_with fail;go_ret;exact ⟨rfl, FIN.out⟩
  ·have hc2 : c = true := by rw [← hce]; simpa using he
   subst hc2;have heb : (er == 0) = false := by simpa using he
   have hen : (er != 0) = true := by simpa using he
   clear hce;go_wp2_with fail;go_ret;exact ⟨rfl, FIN.out⟩
 ·have hc2 : c = true := by rw [← hce]; rfl
  subst hc2;clear hce;go_wp2_with fail;go_ret;exact ⟨rfl, FIN.out⟩
theorem rtext_any (g : Nat) (s r v : ByteArray) (w : World) (b : Bool) (h : RDb w g s b) (hm : s.size ≤ 9223372036854775807) (hv : Hid (ttS s = v)) (hr : Hid (ttR s = r)) (c : Bool) (hc : Hid ((b || decide (ttE s ≠ 0)) = c)) :
  Calls Tryz.prog 155 #[.pointer (some ⟨g, 0, none⟩)] w fun e w' => e = .returned (.string v) ∧ RDb w' g r c ∧ Frm (fun k => k = g) w w' := by
 have TA := Hd (fun w => takeText_any s w hm);rw [hv.out, hr.out] at TA;obtain ⟨er, her⟩ : ∃ er, ttE s = er := ⟨_, rfl⟩
 have hce : (b || decide (er ≠ 0)) = c := by rw [← her]; exact hc.out
 rw [her] at TA;have H := Hd h;have c0 := cl h 0 rfl;clear h hv hr hc her hm;go_enter Tryz.func155, Tryz.ntmps155;go_wp2_with fail;refine (TA.out _).mono ?_;rintro e w1 ⟨rfl, b1⟩;have h1 : w1.heap[g]? = some (.cells #[.string s, .bool b] 201) := (b1.block g (zl H.out)).trans H.out
 have FIN : Hid (RDb ((w1.setCell ⟨g, 0, none⟩ (.string r)).setCell ⟨g, 1, none⟩ (.bool c)) g r c ∧ Frm (fun k => k = g) w ((w1.setCell ⟨g, 0, none⟩ (.string r)).setCell ⟨g, 1, none⟩ (.bool c))) := Hd
  ⟨by unfold RDb; rw [hss _ _ 1 _ _ _ (hss _ _ 0 _ _ _ h1)]; rfl, (((Frm.of_below (F := fun k => k = g) b1).setCell ⟨g, 0, none⟩ _ (.inl rfl)).setCell ⟨g, 1, none⟩ _ (.inl rfl))⟩
 have d0 := cl h1 0 rfl;have d1 := cl h1 1 rfl;have f0 := ufb h1 0;have f1 := ufb h1 1;clear h1 b1 c0
 cases b
 ·by_cases he : er = 0
  ·subst he
   have hc2 : c = false := by rw [← hce]; rfl
   subst hc2;clear hce;go_wp2_with fail;go_ret;exact ⟨rfl, FIN.out⟩
  ·have hc2 : c = true := by rw [← hce]; simpa using he
   subst hc2;have heb : (er == 0) = false := by simpa using he
   have hen : (er != 0) = true := by simpa using he
   clear hce;go_wp2_with fail;go_ret;exact ⟨rfl, FIN.out⟩
 ·have hc2 : c = true := by rw [← hce]; rfl
  subst hc2;clear hce;go_wp2_with fail;go_ret;exact ⟨rfl, FIN.out⟩
section
variable {P : Program} {ops : Array Oper} {Q : Exit → Act → World → Prop} {md : Region.Mode} {S : World → Prop} {f : Nat}
def ways (P : Program) (md : Region.Mode) (ops : Array Oper) (Q : Exit → Act → World → Prop) (S : World → Prop) (f : Nat) : Nat → Array Bool → Act → World → Prop
 | 0, b, a, w => Region.ready md ops b = [] ∧ Q .normal a w
 | n + 1, b, a, w => (Region.ready md ops b = [] → Q .normal a w) ∧ ∀ i, i ∈ Region.ready md ops b → wpOp P ops Q i (fun a2 w2 => ways P md ops Q S f n (b.setIfInBounds i true) a2 w2 ∧ (f ≠ i → b.getD f true = false → S w2)) a w
theorem ways_any (n : Nat) : ∀ b a w, ways P md ops Q S f n b a w → wpAny P md ops Q n b a w := by
 induction n with
 | zero => exact fun b a w h => h
 | succ n ih => exact fun b a w h => ⟨h.1, fun i hi => wpOp_mono (fun a2 w2 hk => ih _ a2 w2 hk.1) (h.2 i hi)⟩
def bound (md : Region.Mode) (ops : Array Oper) (f i : Nat) : Bool :=
 match ops[f]? with
 | some o => o.after.any fun e => Region.binds md e && e.on == i
 | none => false
theorem bound_spec {i : Nat} (h : bound md ops f i = true) (b : Array Bool) (hi : i ∈ Region.ready md ops b) (hf : f ∈ Region.ready md ops b) : False := by
 obtain ⟨hu, _⟩ := mem_ready.1 hi
 obtain ⟨_, o, ho, hall⟩ := mem_ready.1 hf
 unfold bound at h
 rw [ho] at h
 obtain ⟨j, hj, he⟩ := Array.any_eq_true.1 h
 rw [Bool.and_eq_true, beq_iff_eq] at he
 have hd := hall _ (Array.getElem_mem hj) he.1
 rw [he.2] at hd
 by_cases hlt : i < b.size
 ·rw [Array.getD_eq_getD_getElem?, Array.getElem?_eq_getElem hlt, Option.getD_some] at hu hd
  rw [hu] at hd
  cases hd
 ·rw [Array.getD_eq_getD_getElem?, Array.getElem?_eq_none (by omega)] at hu
  cases hu
theorem set_other {b : Array Bool} {i k : Nat} (h : k ≠ i) : (b.setIfInBounds i true).getD k true = b.getD k true := by
 rw [Array.getD_eq_getD_getElem?, Array.getD_eq_getD_getElem?, Array.getElem?_setIfInBounds_ne (Ne.symm h)]
theorem set_same {b : Array Bool} {i : Nat} : (b.setIfInBounds i true).getD i true = true := by
 rw [Array.getD_eq_getD_getElem?]
 by_cases h : i < b.size
 ·rw [Array.getElem?_eq_getElem (by simpa using h)]; simp
 ·rw [Array.getElem?_eq_none (by simpa using h)]; rfl
theorem waits_not {i j : Nat} {b : Array Bool} (hr : i ∈ Region.ready md ops b) {oj : Oper} (hall : ∀ e ∈ oj.after, Region.binds md e = true → b.getD e.on false = true) : ∀ e ∈ oj.after, Region.binds md e = true → e.on ≠ i := by
 intro e he hbi heq
 have hd := hall e he hbi
 obtain ⟨hu, _⟩ := mem_ready.1 hr
 rw [heq] at hd
 by_cases hlt : i < b.size
 ·rw [Array.getD_eq_getD_getElem?, Array.getElem?_eq_getElem hlt, Option.getD_some] at hu hd
  rw [hu] at hd
  cases hd
 ·rw [Array.getD_eq_getD_getElem?, Array.getElem?_eq_none (by omega)] at hu
  cases hu
theorem ways_first {i : Nat} {oi : Oper} {v : Value} (hi : ops[i]? = some oi) (hs : Region.noSelect ops = true) (hb : bound md ops f i = true) (hif : f ≠ i) (hQ : ∀ c a w, Q (.panic c) (a.put oi.dst v) w → Q (.panic c) a w) (n : Nat) :
  ∀ (b : Array Bool) (a : Act) (w : World), (∀ j oj, ops[j]? = some oj → j ≠ i → b.getD j true = false → (∀ e ∈ oj.after, Region.binds md e = true → e.on ≠ i) → oi.apart ops oj = true) →
   i ∈ Region.ready md ops b → b.getD f true = false → YieldsIf P ops S oi v a → S w → ways P md ops Q S f n (b.setIfInBounds i true) (a.put oi.dst v) w → ways P md ops Q S f (n + 1) b a w := by
 induction n with
 | zero =>
  intro b a w hap hr hfu hy hS H
  refine ⟨fun h0 => (by rw [h0] at hr; cases hr), fun j hj => ?_⟩
  rcases Nat.decEq j i with hne | rfl
  ·have hm := ready_mono hj hne
   rw [H.1] at hm
   cases hm
  ·exact hy.wpOp hi hS ⟨H, fun _ _ => hS⟩
 | succ n ih =>
  intro b a w hap hr hfu hy hS H
  refine ⟨fun h0 => (by rw [h0] at hr; cases hr), fun j hj => ?_⟩
  rcases Nat.decEq j i with hne | rfl
  ·have hfj : f ≠ j := fun e => bound_spec hb b hr (e ▸ hj)
   obtain ⟨hun, oj, hoj, hall⟩ := mem_ready.1 hj
   have hno := waits_not (j := j) hr hall
   have hfi : (b.setIfInBounds i true).getD f true = false := by rw [set_other hif]; exact hfu
   have hstep := wpOp_putIf hoj (hap j oj hoj hne hun hno) (fun cs x => Region.noSelect_spec hs i oi cs x hi) (fun cs x => Region.noSelect_spec hs j oj cs x hoj) hQ hy (H.2 j (ready_mono hj hne))
   refine wpOp_mono (fun a2 w2 hk => ⟨?_, fun _ _ => hk.2.2 hfj hfi⟩) hstep
   refine ih _ a2 w2 (fun k ok hk1 hki hku hkn => hap k ok hk1 hki ?_ hkn) (ready_mono hr (Ne.symm hne)) (by rw [set_other hfj]; exact hfu) hk.1 (hk.2.2 hfj hfi) ?_
   ·by_cases hjk : j = k
    ·rw [← hjk]; exact hun
    ·rw [getD_set_ne true hjk] at hku; exact hku
   ·rw [Array.setIfInBounds_comm _ _ hne]
    exact hk.2.1
  ·exact hy.wpOp hi hS ⟨H, fun _ _ => hS⟩
theorem ways_free {i : Nat} {oi : Oper} {v : Value} (hi : ops[i]? = some oi) (hs : Region.noSelect ops = true) (hif : f ≠ i) (hQ : ∀ c a w, Q (.panic c) (a.put oi.dst v) w → Q (.panic c) a w) (n : Nat) :
  ∀ (b : Array Bool) (a : Act) (w : World), (∀ j oj, ops[j]? = some oj → j ≠ i → b.getD j true = false → (∀ e ∈ oj.after, Region.binds md e = true → e.on ≠ i) → oi.apart ops oj = true) →
   i ∈ Region.ready md ops b → YieldsIf P ops (fun _ => True) oi v a → (b.getD f true = false → S w) → ways P md ops Q S f n (b.setIfInBounds i true) (a.put oi.dst v) w → ways P md ops Q S f (n + 1) b a w := by
 induction n with
 | zero =>
  intro b a w hap hr hy hS H
  refine ⟨fun h0 => (by rw [h0] at hr; cases hr), fun j hj => ?_⟩
  rcases Nat.decEq j i with hne | rfl
  ·have hm := ready_mono hj hne
   rw [H.1] at hm
   cases hm
  ·exact hy.wpOp hi trivial ⟨H, fun _ => hS⟩
 | succ n ih =>
  intro b a w hap hr hy hS H
  refine ⟨fun h0 => (by rw [h0] at hr; cases hr), fun j hj => ?_⟩
  rcases Nat.decEq j i with hne | rfl
  ·obtain ⟨hun, oj, hoj, hall⟩ := mem_ready.1 hj
   have hno := waits_not (j := j) hr hall
   have hstep := wpOp_putIf hoj (hap j oj hoj hne hun hno) (fun cs x => Region.noSelect_spec hs i oi cs x hi) (fun cs x => Region.noSelect_spec hs j oj cs x hoj) hQ hy (H.2 j (ready_mono hj hne))
   refine wpOp_mono (fun a2 w2 hk => ⟨?_, fun hfj hfu => hk.2.2 hfj (by rw [set_other hif]; exact hfu)⟩) hstep
   refine ih _ a2 w2 (fun k ok hk1 hki hku hkn => hap k ok hk1 hki ?_ hkn) (ready_mono hr (Ne.symm hne)) hk.1 (fun hfu => ?_) ?_
   ·by_cases hjk : j = k
    ·rw [← hjk]; exact hun
    ·rw [getD_set_ne true hjk] at hku; exact hku
   ·by_cases hfj : f = j
    ·rw [hfj, set_same] at hfu; cases hfu
    ·rw [set_other hfj] at hfu
     exact hk.2.2 hfj (by rw [set_other hif]; exact hfu)
   ·rw [Array.setIfInBounds_comm _ _ hne]
    exact hk.2.1
  ·exact hy.wpOp hi trivial ⟨H, fun _ => hS⟩
theorem ways_take {i : Nat} {oi : Oper} (v : Value) {n : Nat} {b : Array Bool} {a : Act} {w : World} (hi : ops[i]? = some oi) (hs : Region.noSelect ops = true) (hb : (bound md ops f i && !(f == i) && !(b.getD f true)) = true) (hf : Region.free md ops b i = true) (hr : (Region.ready md ops b).contains i = true)
  (hQ : ∀ c a w, Q (.panic c) (a.put oi.dst v) w → Q (.panic c) a w) (hS : S w) (hw : Region.wanted oi (yielded ops a.tmps) = true) (hy : ∀ w, S w → (execOp a.eval oi).run P w = .ok (.value v) w)
  (h : ways P md ops Q S f n (b.setIfInBounds i true) (a.put oi.dst v) w) : ways P md ops Q S f (n + 1) b a w := by
 rw [Bool.and_eq_true, Bool.and_eq_true] at hb
 exact ways_first hi hs hb.1.1 (by have := hb.1.2; simpa using this) hQ n b a w (Region.free_spec hi hf) (by simpa using hr) (by have := hb.2; simpa using this) (.inl ⟨hw, hy⟩) hS h
theorem ways_skip {i : Nat} {oi : Oper} (v : Value) {n : Nat} {b : Array Bool} {a : Act} {w : World} (hi : ops[i]? = some oi) (hs : Region.noSelect ops = true) (hb : (!(f == i)) = true) (hf : Region.free md ops b i = true) (hr : (Region.ready md ops b).contains i = true)
  (hQ : ∀ c a w, Q (.panic c) (a.put oi.dst v) w → Q (.panic c) a w) (hS : S w) (hw : Region.wanted oi (yielded ops a.tmps) = true) (hy : ∀ w, (execOp a.eval oi).run P w = .ok (.value v) w)
  (h : ways P md ops Q S f n (b.setIfInBounds i true) (a.put oi.dst v) w) : ways P md ops Q S f (n + 1) b a w :=
 ways_free hi hs (by simpa using hb) hQ n b a w (Region.free_spec hi hf) (by simpa using hr) (.inl ⟨hw, fun w _ => hy w⟩) (fun _ => hS) h
theorem ways_step {i : Nat} {oi : Oper} {n : Nat} {b : Array Bool} {a : Act} {w : World} (hi : ops[i]? = some oi) (hr : Region.ready md ops b = [i])
  (h : ∀ K : Act → World → Prop, (∀ a2 w2, ways P md ops Q S f n (b.setIfInBounds i true) a2 w2 → (f ≠ i → S w2) → K a2 w2) → if Region.wanted oi (yielded ops a.tmps) = true then Oper.wp P oi a w K Q else K (a.put oi.dst undef) w) : ways P md ops Q S f (n + 1) b a w := by
 refine ⟨fun h0 => (by rw [hr] at h0; cases h0), fun j hj => ?_⟩
 rw [hr, List.mem_singleton] at hj
 subst hj
 exact wpOp_step hi fun K hK => h K fun a2 w2 h1 h2 => hK a2 w2 ⟨h1, fun h3 _ => h2 h3⟩
theorem ways_done {n : Nat} {b : Array Bool} {a : Act} {w : World} (hr : Region.ready md ops b = []) (h : Q .normal a w) : ways P md ops Q S f n b a w := by
 cases n with
 | zero => exact ⟨hr, h⟩
 | succ n => exact ⟨fun _ => h, fun i hi => (by rw [hr] at hi; cases hi)⟩
theorem region_ways (S : World → Prop) (f : Nat) {id : Nat} {a : Act} {w : World} (hm : P.follows .mixedOrders = true) (h : ways P .any ops Q S f ops.size (Array.replicate ops.size false) a w.drew) : (Code.region id ops true).wp P Q a w :=
 wp_region_any hm (ways_any _ _ _ _ h)
end
section
open Go.RowKit
variable {P : Program} {ops : Array Oper} {Q : Exit → Act → World → Prop} {md : Region.Mode} {S : World → Prop} {f : Nat}
theorem Ws (i : Nat) {oi : Oper} (v : Value) {n : Nat} {b : Array Bool} {a : Act} {w : World} (hS : S w) (hy : ∀ w, (execOp a.eval oi).run P w = .ok (.value v) w) (h : ways P md ops Q S f n (b.setIfInBounds i true) (a.put oi.dst v) w) (hi : ops[i]? = some oi := by exact rfl) (hs : Region.noSelect ops = true := by kernel_rfl) (hb : (!(f == i)) = true := by kernel_rfl) (hf : Region.free md ops b i = true := by kernel_rfl) (hr : (Region.ready md ops b).contains i = true := by kernel_rfl)
    (hQ : ∀ c a w, Q (.panic c) (a.put oi.dst v) w → Q (.panic c) a w := by exact fun _ _ _ h => h) (hw : Region.wanted oi (yielded ops a.tmps) = true := by rfl) : ways P md ops Q S f (n + 1) b a w := ways_skip v hi hs hb hf hr hQ hS hw hy h
theorem Wt (i : Nat) {oi : Oper} (v : Value) {n : Nat} {b : Array Bool} {a : Act} {w : World} (hS : S w) (hy : ∀ w, S w → (execOp a.eval oi).run P w = .ok (.value v) w) (h : ways P md ops Q S f n (b.setIfInBounds i true) (a.put oi.dst v) w) (hi : ops[i]? = some oi := by exact rfl) (hs : Region.noSelect ops = true := by kernel_rfl) (hb : (bound md ops f i && !(f == i) && !(b.getD f true)) = true := by kernel_rfl) (hf : Region.free md ops b i = true := by kernel_rfl) (hr : (Region.ready md ops b).contains i = true := by kernel_rfl)
    (hQ : ∀ c a w, Q (.panic c) (a.put oi.dst v) w → Q (.panic c) a w := by exact fun _ _ _ h => h) (hw : Region.wanted oi (yielded ops a.tmps) = true := by rfl) : ways P md ops Q S f (n + 1) b a w := ways_take v hi hs hb hf hr hQ hS hw hy h
theorem Wp (i : Nat) {oi : Oper} {n : Nat} {b : Array Bool} {a : Act} {w : World}
    (h : ∀ K : Act → World → Prop, Hid (∀ a2 w2, ways P md ops Q S f n (b.setIfInBounds i true) a2 w2 → (f ≠ i → S w2) → K a2 w2) → if Region.wanted oi (yielded ops a.tmps) = true then Oper.wp P oi a w K Q else K (a.put oi.dst undef) w) (hi : ops[i]? = some oi := by exact rfl) (hr : Region.ready md ops b = [i] := by kernel_rfl) : ways P md ops Q S f (n + 1) b a w := ways_step hi hr fun K hK => h K (Lib.hid hK)
end
end Go.Proofs.YtmomlhiokggfbaaGreatDoor
