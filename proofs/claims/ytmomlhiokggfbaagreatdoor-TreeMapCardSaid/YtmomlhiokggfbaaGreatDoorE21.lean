/-
 Ref01P, Rf09, TrBg, TrVa, MapW, TrLk, TrEx, TrEt, TrMp, TreeMapLaw.
-/
import Derived.Test.YtmomlhiokggfbaaGreatDoorE03
import Derived.Test.YtmomlhiokggfbaaGreatDoorE20
import Derived.Test.YtmomlhiokggfbaaGreatDoorE08
import Derived.Test.YtmomlhiokggfbaaGreatDoorE18
import Derived.Test.YtmomlhiokggfbaaGreatDoorE01
import Derived.Test.YtmomlhiokggfbaaGreatDoorE07
import Derived.Test.YtmomlhiokggfbaaGreatDoorE04
import Derived.MapKept
import Derived.BigQuiet
import Derived.Deep.DeepCutAuto
import Derived.Deep.CutBlock
namespace Go.Proofs.YtmomlhiokggfbaaGreatDoor
open Go.RowKit
set_option maxRecDepth 20000
set_option maxHeartbeats 12800000
def refArr (m size : Nat) : Nat → Array Value
 | 0 => (List.replicate size (.int .u8 0)).toArray
 | k + 1 => (refArr m size k).setIfInBounds (size - 1 - k) (.int .u8 (((m / 256 ^ k : Nat) : Int) % 256))
theorem refArr_size (m size k : Nat) : (refArr m size k).size = size := by
 induction k with
 | zero => simp [refArr]
 | succ k ih => simp [refArr, ih]
theorem refArr_at (m size k j : Nat) (hj : j < size) : ∃ v, (refArr m size k)[j]? = some v :=
 ⟨(refArr m size k)[j]'(by rw [refArr_size]; omega), Array.getElem?_eq_getElem _⟩
theorem refArr_get (m size k j : Nat) (hk : k ≤ size) (hj : j < size) (hjk : size - 1 - j < k) :
  (refArr m size k)[j]? = some (.int .u8 (((m / 256 ^ (size - 1 - j) : Nat) : Int) % 256)) := by
 induction k with
 | zero => omega
 | succ k ih =>
  rw [refArr]
  by_cases e : j = size - 1 - k
  ·have ek : size - 1 - j = k := by omega
   rw [ek, ← e, Array.getElem?_setIfInBounds_self_of_lt (by rw [refArr_size]; omega)]
  ·rw [Array.getElem?_setIfInBounds_ne (by omega)]
   exact ih (by omega) (by omega)
theorem refArr_be (m size j : Nat) (hj : j < (M.be size m).length) :
  (refArr m size size)[j]? = some (.int .u8 (((M.be size m)[j]).toNat : Int)) := by
 have hj' : j < size := by rwa [M.be_length] at hj
 rw [refArr_get _ _ _ _ (Nat.le_refl _) hj' (by omega)];have := M.be_get size m j hj';rw [List.getElem?_eq_getElem hj] at this;rw [Option.some.inj this, UInt8.toNat_ofNat', Nat.mod_mod_of_dvd _ (by decide)];simp
theorem refMake (size : Nat) (h : size ≤ 8) (W : World) : (Instr.makeSlice 62 (.int .i64 (size : Int)) (.int .i64 (size : Int))).run Tryz.prog W =
  .ok (.slice (some ⟨W.heap.size, 0, none⟩) size size) (W.alloc (.cells (refArr 0 size 0) 5)) := by
 have hinfo : (Tryz.prog.info? 5).map (fun i => (i.zero, i.size, i.bytes)) = some (some (.int .u8 0), 1, 1) := by kernel_rfl
 obtain ⟨i0, hi, hz0, hz1, hz2⟩ := info_parts hinfo;have := run_make (P := Tryz.prog) W 62 5 i0 (.int .u8 0) Tryz.underlying62 hi hz0 .i64 .i64 size size (by omega) (by omega) (by rw [hz2]; omega) (by omega);rw [this, hz1]
 have e : madeCells (Value.int .u8 0).cells (size * 1) = refArr 0 size 0 := by
  apply Array.toList_inj.1;rw [show (Value.int .u8 0).cells = #[.int .u8 0] from rfl, toList_madeCells_one];simp [refArr]
 simp only [Int.toNat_natCast, e]
theorem div_step (m k : Nat) : (m : Int) / 256 ^ k / 256 = ((m / 256 ^ (k + 1) : Nat) : Int) := by
 rw [Nat.pow_succ, ← Nat.div_div_eq_div_mul]; simp
theorem refPut_ok (m : Nat) (size : Nat) (w : World) (_hmm : m ≤ 18446744073709551615) (h1 : 1 ≤ size) (h8 : size ≤ 8) (hf : size < 8 → m / 2 ^ (8 * size) = 0) :
  Calls Tryz.prog 104 #[.int .u64 (m : Int), .int .i64 size] w fun e w' => e = .returned (.tuple #[.string (Str (M.be size m)), .bool true]) ∧ Below w.heap.size w w' := by
 have hf' : size < 8 → (m : Int) / 2 ^ (8 * size) = 0 := fun h => by have := hf h; exact_mod_cast this
 have hcells := fun j hj => refArr_be m size j hj
 have hconv := run_convert_bytes_back (P := Tryz.prog) (w.alloc (.cells (refArr m size size) 5)) 62 9 5 ⟨w.heap.size, 0, none⟩ size (M.be size m) Tryz.underlying62 Tryz.underlying5 Tryz.underlying9 (fun j hj => by
  have := hcells j hj;rw [show (⟨w.heap.size, 0, none⟩ : Addr).add j = ⟨w.heap.size, j, none⟩ by unfold Addr.add; split <;> simp_all];rw [← this]; simp)
 rw [M.be_length] at hconv;have HC := Hd hconv;have HMK := refMake size h8;have HF := Hd hf';clear hconv hcells hf hf'
 by_cases hs : size < 8
 all_goals
  have h2 := HF.out
  first | (have h3 := h2 hs; clear h2) | clear h2
  go_enter Tryz.func104, Tryz.ntmps104;go_wp2_with fail
  go_loopw [0, 7] (fun n i wr => ∃ k : Nat, k ≤ size ∧ i = .int .i64 ((size : Int) - 1 - k) ∧ n = .int .u64 ((m / 256 ^ k : Nat) : Int) ∧ wr = w.alloc (.cells (refArr m size k) 5)) (fun _ i _ => (intOf i + 1).toNat)
  case atStart => exact ⟨0, Nat.zero_le _, by simp, by simp, rfl⟩
  case round =>
   obtain ⟨k, hk, rfl, rfl, rfl⟩ := hrel
   by_cases hlt : k < size
   ·obtain ⟨v, hv⟩ := refArr_at m size k (size - 1 - k) (by omega)
    go_wp2
    go_roundw
    case rel => exact ⟨k + 1, by omega, by go_num, by rw [div_step], rfl⟩
    case measure => simp [intOf]; omega
   ·obtain rfl : k = size := by omega
    have hconv := HC.out
    go_wp2
    go_ret2;exact ⟨rfl, Br.alloc (Nat.le_refl _) _⟩
theorem refPut_size (n size : Int) (w : World) (h : ¬ (1 ≤ size ∧ size ≤ 8)) :
  Calls Tryz.prog 104 #[.int .u64 n, .int .i64 size] w fun e w' => e = .returned (.tuple #[.string ⟨#[]⟩, .bool false]) ∧ w = w' := by
 have h' : size < 1 ∨ 8 < size := by omega
 clear h
 rcases h' with h | h
 all_goals
  go_enter Tryz.func104, Tryz.ntmps104
  go_wp2
  go_ret2;exact ⟨rfl, rfl⟩
theorem refPut_wide (n : Int) (size : Nat) (w : World) (h1 : 1 ≤ size) (h8 : size < 8) (hf : 0 < n / 2 ^ (8 * size)) :
  Calls Tryz.prog 104 #[.int .u64 n, .int .i64 size] w fun e w' => e = .returned (.tuple #[.string ⟨#[]⟩, .bool false]) ∧ w = w' := by
 go_enter Tryz.func104, Tryz.ntmps104
 go_wp2
 go_ret2;exact ⟨rfl, rfl⟩
theorem refPut_any (n size : Int) (w : World) (h0 : 0 ≤ n) (hm : n ≤ 18446744073709551615) :
  Calls Tryz.prog 104 #[.int .u64 n, .int .i64 size] w fun e w' => e = .returned (.tuple #[.string (Str (putL n size)), .bool (putOk n size)]) ∧ Below w.heap.size w w' := by
 obtain ⟨m, rfl⟩ := Int.eq_ofNat_of_zero_le h0
 by_cases h : 1 ≤ size ∧ size ≤ 8
 ·obtain ⟨s, rfl⟩ := Int.eq_ofNat_of_zero_le (show 0 ≤ size by omega)
  cases hk : putOk (m : Int) (s : Int)
  ·have hf : ¬ m / 2 ^ (8 * s) = 0 := by
    intro hf;simp only [putOk, h, and_self, decide_true, Bool.true_and, beq_eq_false_iff_ne, show (8 * (s : Int)).toNat = 8 * s by omega] at hk;apply hk
    exact_mod_cast hf
   have h8 : s < 8 := by
    rcases Nat.lt_or_ge s 8 with h' | h'
    ·exact h'
    ·exfalso
     apply hf;apply Nat.div_eq_of_lt;have e : s = 8 := by omega
     subst e;have e : (2 : Nat) ^ (8 * 8) = 18446744073709551616 := by simp
     rw [e]; omega
   have hf' : 0 < (m : Int) / 2 ^ (8 * s) := by
    have : 0 < m / 2 ^ (8 * s) := Nat.pos_of_ne_zero hf
    exact_mod_cast this
   refine (refPut_wide m s w (by omega) h8 hf').mono ?_;rintro e w' ⟨rfl, rfl⟩;exact ⟨by simp [putL, hk, Str], Br⟩
  ·have hf : m / 2 ^ (8 * s) = 0 := by
    simp only [putOk, Bool.and_eq_true, beq_iff_eq, show (8 * (s : Int)).toNat = 8 * s by omega] at hk
    exact_mod_cast hk.2
   refine (refPut_ok m s w (by omega) (by omega) (by omega) (fun _ => hf)).mono ?_;rintro e w' ⟨rfl, hb⟩;exact ⟨by simp [putL, hk], hb⟩
 ·refine (refPut_size _ size w h).mono ?_
  rintro e w' ⟨rfl, rfl⟩;have hk : putOk (m : Int) size = false := by simp [putOk, h]
  exact ⟨by simp [putL, hk, Str], Br⟩
theorem RkPost.step {w w1 w2 : World} {x : Nat} {st : DkS} {F : Nat → Prop} (hb : Below w.heap.size w w1) (h : RkPost w1 x st F w2) : RkPost w x st F w2 := by
 obtain ⟨F', h1, h2, h3⟩ := h;refine ⟨F', h1, (Frm.of_below (F := F) hb).trans h2 (fun k hk => .inl hk), fun k hk => ?_⟩
 rcases h3 k hk with hx | hx
 ·exact .inl hx
 ·exact .inr (Nat.le_trans hb.size hx)
theorem Rk.below {w w' : World} {x : Nat} {st : DkS} {F : Nat → Prop} (h : Rk w x st F) (hb : Below w.heap.size w w') : Rk w' x st F := h.keptB fun k hk => hb.block k (h.ltB k hk)
theorem rkPgWrite (w : World) (x : Nat) (sx : DkS) (F : Nat → Prop) (h : Rk w x sx F) (n k : Int) (t : ByteArray) (hb : sealB k t = true) :
  Calls Tryz.prog 72 #[.pointer (some ⟨x, 0, none⟩), .int .i64 n, .int .i64 k, .string t] w fun e w' => e = .returned (.int .i64 (pgWr sx n k t).2) ∧ RkPost w x (pgWr sx n k t).1 F w' := by
 have HP := Hd h;have S1 := Hd (fun w => refSeal_any k t w);unfold pgWr;clear h;rw [hb] at S1;rw [if_pos hb];generalize sealS k t = S at S1;clear hb;go_enter Tryz.func72, Tryz.ntmps72;go_wp2_with fail;refine (S1.out _).mono ?_;rintro e w1 ⟨rfl, b1⟩;have HP1 := Hd (HP.out.below b1);have B1 := Hd b1;clear b1;go_wp2_with fail;refine (refWrite_any _ _ _ _ HP1.out n S).mono ?_;rintro e w2 ⟨rfl, h2⟩;have HP2 := Hd (h2.step B1.out);clear h2;go_wp2_with fail;go_ret;exact ⟨rfl, HP2.out⟩
theorem refEmpty (w : World) :
  Calls Tryz.prog 74 #[] w fun e w' => e = .returned (.string (Str (List.replicate 80 0))) ∧ Below w.heap.size w w' := by
 have BN := Hd (fun w => refNew_any 640 w (by decide) (by decide));have hn : newN 640 = 80 := by decide
 rw [hn] at BN;generalize Str (List.replicate 80 (0 : UInt8)) = T at BN ⊢;clear hn;go_enter Tryz.func74, Tryz.ntmps74;go_wp2_with fail;refine (BN.out _).mono ?_;rintro e w1 ⟨rfl, b1⟩;go_wp2_with fail;go_ret;exact ⟨rfl, b1⟩
def fmtT : ByteArray := Str (putL 1 6) ++ Str (putL 0 2) ++ Str (List.replicate 80 0)
theorem fmtT_size : fmtT.size = 88 := by decide +kernel
theorem refHeadText (w : World) :
  Calls Tryz.prog 73 #[.int .i64 1, .int .i64 0, .string (Str (List.replicate 80 0))] w fun e w' => e = .returned (.string fmtT) ∧ Below w.heap.size w w' := by
 have P1 := Hd (fun w => refPut_any 1 6 w (by decide) (by decide));have P2 := Hd (fun w => refPut_any 0 2 w (by decide) (by decide));unfold fmtT;have z1 : (Str (putL 1 6)).size = 6 := by decide +kernel
 have z2 : (Str (putL 0 2)).size = 2 := by decide +kernel
 have z3 : (Str (List.replicate 80 (0 : UInt8))).size = 80 := by rw [Str_size]; rfl
 generalize Str (putL 1 6) = A at P1 z1 ⊢;generalize Str (putL 0 2) = B at P2 z2 ⊢;generalize Str (List.replicate 80 (0 : UInt8)) = T at z3 ⊢;generalize putOk 1 6 = o1 at P1;generalize putOk 0 2 = o2 at P2;go_enter Tryz.func73, Tryz.ntmps73;go_wp2_with fail;refine (P1.out _).mono ?_;rintro e w1 ⟨rfl, b1⟩;have B1 := Hd b1;clear b1;go_wp2_with fail;refine (P2.out _).mono ?_;rintro e w2 ⟨rfl, b2⟩;have B2 := Hd (chain B1.out b2);clear b2;go_wp2_with fail;go_ret;exact ⟨rfl, B2.out⟩
theorem fmt_seal : sealB 1 fmtT = true := by unfold sealB; rw [fmtT_size]; decide
theorem fmt_pg (n : Nat) (h8 : 8 ≤ n) (hn : n ≤ 640) : (pgWr (DkS.fresh n) 1 1 fmtT).2 = 0 ∧ (pgWr (DkS.fresh n) 1 1 fmtT).1.up = true := by
 have hw := pgWr_ok (DkS.fresh n) 1 1 fmtT rfl (by show (-1 : Int) ≠ 0; decide) (by show 1 < (List.replicate n zs).length; rw [List.length_replicate]; omega) (by decide) (by decide) (by rw [fmtT_size]; decide);have hw' : pgWr (DkS.fresh n) 1 1 fmtT = ((DkS.fresh n).wrote 1 (pgL 1 fmtT.data.toList), 0) := hw;rw [hw'];exact ⟨rfl, by rw [wrote_up]; rfl⟩
def RefMade (w : World) (F : Nat → Prop) (e : Ending) (w' : World) : Prop := ∃ r : Nat, e = .returned (.tuple #[.pointer (some ⟨r, 0, none⟩), .int .i64 0]) ∧ Frm F w w'
theorem refFormat (w : World) (x : Nat) (F : Nat → Prop) (n : Nat) (h8 : 8 ≤ n) (hn : n ≤ 640) (h : Rk w x (DkS.fresh n) F) :
  Calls Tryz.prog 44 #[.pointer (some ⟨x, 0, none⟩)] w (RefMade w F) := by
 have EM := Hd refEmpty;have HT := Hd refHeadText;have PW := Hd (fun w' (h' : Rk w' x (DkS.fresh n) F) => rkPgWrite w' x (DkS.fresh n) F h' 1 1 fmtT fmt_seal);obtain ⟨p1, p2⟩ := fmt_pg n h8 hn;rw [p1] at PW;have HU := Hd p2;have HR := Hd h;clear h p1 p2 h8 hn;generalize (pgWr (DkS.fresh n) 1 1 fmtT).1 = D at PW HU;generalize Str (List.replicate 80 (0 : UInt8)) = T at EM HT;generalize fmtT = U at HT PW;go_enter Tryz.func44, Tryz.ntmps44;go_wp2_with fail;refine (EM.out _).mono ?_;rintro e w1 ⟨rfl, b1⟩;have B1 := Hd b1;clear b1;go_wp2_with fail;refine (HT.out _).mono ?_;rintro e w2 ⟨rfl, b2⟩
 have B2 := Hd (chain B1.out b2);clear b2;have R2 := Hd (HR.out.below B2.out);go_wp2_with fail;refine (PW.out _ R2.out).mono ?_;rintro e w3 ⟨rfl, h3⟩;have H3 := Hd (h3.step B2.out);clear h3;obtain ⟨F3, r3, f3, n3⟩ := H3.out;have SY := Hd (refSync_any _ _ _ _ r3);have hs : D.sync.2 = 0 := by unfold DkS.sync; rw [HU.out]; rfl
 rw [hs] at SY;have HF3 := Hd f3;have HN3 := Hd n3;clear f3 n3 r3 hs H3;go_wp2_with fail;refine SY.out.mono ?_;rintro e w4 ⟨rfl, F4, r4, f4, n4⟩;have HF4 : Hid (Frm F w w4) := Hd (HF3.out.trans f4 HN3.out);clear r4 f4 n4 SY;go_wp2_with fail;refine (EM.out _).mono ?_;rintro e w5 ⟨rfl, b5⟩;have HF5 : Hid (Frm F w w5) := Hd (HF4.out.trans (G := fun _ => False) (Frm.of_below b5) fun _ h => h.elim);clear b5;go_wp2_with fail;refine (EM.out _).mono ?_;rintro e w6 ⟨rfl, b6⟩;have HF6 : Hid (Frm F w w6) := Hd (HF5.out.trans (G := fun _ => False) (Frm.of_below b6) fun _ h => h.elim);clear b6
 go_wp2_with fail;refine (EM.out _).mono ?_;rintro e w7 ⟨rfl, b7⟩;have HF7 : Hid (Frm F w w7) := Hd (HF6.out.trans (G := fun _ => False) (Frm.of_below b7) fun _ h => h.elim);clear b7;go_wp2_with fail;go_ret2;exact ⟨_, rfl, HF7.out.alloc _⟩
theorem ptr_neD (a : Addr) (w : World) : (binOp .neq 34 (.pointer (some a)) (.pointer none)).run Tryz.prog w = .ok (.bool true) w := by kernel_rfl
theorem ptr_nilX (a : Addr) (w : World) : (binOp .eql 35 (.pointer (some a)) (.pointer none)).run Tryz.prog w = .ok (.bool false) w := by kernel_rfl
theorem ptr_neR (a : Addr) (w : World) : (binOp .neq 37 (.pointer (some a)) (.pointer none)).run Tryz.prog w = .ok (.bool true) w := by kernel_rfl
theorem kept1B {w w1 : World} {o : Obj} (hb : Below (w.alloc o).heap.size (w.alloc o) w1) : w1.heap[w.heap.size]? = some o := (hb.block _ (by simp)).trans (heap_alloc_new w o)
def DisR (w : World) (n : Nat) (e : Ending) (w' : World) : Prop := ∃ (d x : Nat) (FD FX : Nat → Prop), e = .returned (.tuple #[.pointer (some ⟨d, 0, none⟩), .pointer (some ⟨x, 0, none⟩), .bool true]) ∧ Dk w' d (DkS.fresh n) FD ∧ Rk w' x (DkS.fresh n) FX ∧ (∀ k, FD k → w.heap.size ≤ k ∧ ¬ FX k) ∧ (∀ k, FX k → w.heap.size ≤ k) ∧ Below w.heap.size w w'
theorem disks_is (w : World) (n : Nat) (h8 : 8 ≤ n) (hn : n ≤ 640) :
  Calls Tryz.prog 43 #[.int .i64 (n : Int)] w (DisR w n) := by
 have NY := Hd fun w => new_yes w n h8 hn
 have RN := Hd fun w => refNew_yes w n h8 hn
 clear h8 hn;go_enter Tryz.func43, Tryz.ntmps43;go_wp2_with fail;refine (NY.out _).mono ?_;rintro e w1 ⟨d, FD, rfl, hd, hb, hF⟩;have HD := Hd hd;have HB := Hd hb;have HF := Hd hF;have pn := ptr_neD ⟨d, 0, none⟩;clear hd hb hF NY;go_wp2_with fail;refine (RN.out _).mono ?_;rintro e w2 ⟨x, FX, rfl, hx, hb2, hFX⟩
 have FIN : Hid (DisR w n (.returned (.tuple #[.pointer (some ⟨d, 0, none⟩), .pointer (some ⟨x, 0, none⟩), .bool true])) w2) := by
  refine Hd ⟨d, x, FD, FX, rfl, HD.out.below hb2, hx, fun k hk => ⟨HF.out k hk, fun hX => ?_⟩, fun k hk => Nat.le_trans HB.out.size (hFX k hk), chain HB.out hb2⟩;have := HD.out.lt k hk;have := hFX k hX;omega
 clear hx hb2 hFX HD HB HF RN;go_wp2_with fail;go_ret3;exact FIN.out
def BegR (w : World) (n : Nat) (e : Ending) (w' : World) : Prop := ∃ b d x s r : Nat, e = .returned (.tuple #[.pointer (some ⟨b, 0, none⟩), .bool true]) ∧ w'.heap[b]? = some (.cells #[.pointer (some ⟨d, 0, none⟩), .pointer (some ⟨x, 0, none⟩), .pointer (some ⟨s, 0, none⟩), .pointer (some ⟨r, 0, none⟩), .int .i64 0] 39) ∧ w.heap.size ≤ b ∧ TrR w [b] w' d s n 0 []
theorem cells5 {w : World} {b : Nat} {v0 v1 v2 v3 v4 : Value} {T : TypeId} (h : w.heap[b]? = some (.cells #[v0, v1, v2, v3, v4] T)) : w.cell? ⟨b, 0, none⟩ = some v0 ∧ w.cell? ⟨b, 1, none⟩ = some v1 ∧ w.cell? ⟨b, 2, none⟩ = some v2 ∧ w.cell? ⟨b, 3, none⟩ = some v3 ∧ w.cell? ⟨b, 4, none⟩ = some v4 ∧ ∀ i, w.frozen? ⟨b, i, none⟩ = false := by
 refine ⟨?_, ?_, ?_, ?_, ?_, fun i => ufb h i⟩ <;> (rw [Go.Joins.cell_of_block h]; rfl)
theorem set_frm {w : World} {b i : Nat} (v : Value) : Frm (fun k => k = b) w (w.setCell ⟨b, i, none⟩ v) := (Frm.refl _ w).setCell _ _ (.inl rfl)
theorem dk_fresh_len (n : Nat) : (DkS.fresh n).S.length = n := by show (List.replicate n zs).length = n; rw [List.length_replicate]
theorem begins_is (w : World) (n : Nat) (h8 : 8 ≤ n) (hn : n ≤ 640) :
  Calls Tryz.prog 14 #[.int .i64 (n : Int)] w (BegR w n) := by
 have DI := Hd fun w => disks_is w n h8 hn
 have FG := Hd (fmt_good (DkS.fresh n) rfl rfl (by rw [dk_fresh_len]; exact h8) (by rw [dk_fresh_len]; exact hn));have RF := Hd (fun w x F (h : Rk w x (DkS.fresh n) F) => refFormat w x F n h8 hn h);clear h8 hn;go_enter Tryz.func14, Tryz.ntmps14;go_wp2_with fail;refine (DI.out _).mono ?_;rintro e w1 ⟨d, x, FD, FX, rfl, hd, hx, hFD, hFX, hb⟩;have hz : (w.alloc (.cells #[.pointer none, .pointer none, .pointer none, .pointer none, .int .i64 0] 39)).heap.size = w.heap.size + 1 := by simp
 have K1 : w1.heap[w.heap.size]? = some (.cells #[.pointer none, .pointer none, .pointer none, .pointer none, .int .i64 0] 39) := kept1B hb;rw [hz] at hFD hFX;have HB1 : Hid (Below w.heap.size w w1) := Hd ((Br.alloc (Nat.le_refl _) _).trans (hb.mono (by omega)));obtain ⟨_, _, _, _, _, f1⟩ := cells5 K1;have f10 := f1 0;have f11 := f1 1;obtain ⟨w2, hw2⟩ : ∃ w2, (w1.setCell ⟨w.heap.size, 0, none⟩ (.pointer (some ⟨d, 0, none⟩))).setCell ⟨w.heap.size, 1, none⟩ (.pointer (some ⟨x, 0, none⟩)) = w2 := ⟨_, rfl⟩
 have K2 : w2.heap[w.heap.size]? = some (.cells #[.pointer (some ⟨d, 0, none⟩), .pointer (some ⟨x, 0, none⟩), .pointer none, .pointer none, .int .i64 0] 39) := by
  rw [← hw2, heap_setCell_same _ _ 1 _ _ _ (heap_setCell_same _ _ 0 _ _ _ K1)]
  rfl
 have F2 : Frm (fun k => k = w.heap.size) w1 w2 := by rw [← hw2]; exact (set_frm _).trans (set_frm _) fun _ h => .inl h
 have HD2 := Hd (hd.frm F2 fun k hk e => by have := (hFD k hk).1; omega);have HX2 := Hd (hx.keptB fun k hk => F2.block k (hx.ltB k hk) (fun e => by have := hFX k hk; omega));have HB2 : Hid (Below w.heap.size w w2) := Hd (HB1.out.trans (F2.below (fun k hk => by omega) HB1.out.size));have HFD := Hd hFD;have HFX := Hd hFX;have HK2 := Hd K2;obtain ⟨c20, c21, _, _, _, _⟩ := cells5 K2;have nX := ptr_nilX ⟨x, 0, none⟩;have L2 : Hid (w.heap.size < w2.heap.size) := Hd (Array.getElem?_eq_some_iff.1 K2).1;clear hd hx hFD hFX hb hz K1 f1 F2 K2 HB1;go_upto_region 4 with fail
 try rw [hw2]
 clear hw2;go_wp2_with fail;refine (format_is w2 d (DkS.fresh n) FD HD2.out).mono ?_;intro e w3 hp;obtain ⟨v, rfl, s, FS, FD', rfl, hds, hf3, hn3, hs3⟩ := hp.1 FG.out.1;have K3 := (hf3.block _ L2.out (fun h => by have := (HFD.out _ h).1; omega)).trans HK2.out;have HX3 := Hd (HX2.out.keptB fun k hk => hf3.block k (HX2.out.ltB k hk) (fun h => (HFD.out k h).2 hk));have HB3 : Hid (Below w.heap.size w w3) := Hd (HB2.out.trans (hf3.below (fun k hk => by have := (HFD.out k hk).1; omega) HB2.out.size));have HD3 := Hd hds
 have HN3 : Hid (∀ k, (FD' k ∨ FS k) → w.heap.size + 1 ≤ k ∧ ¬ FX k) := Hd (fun k hk => by
  have h2 := HX2.out.ltB k;have hL := L2.out
  rcases hk with hk | hk
  ·rcases hn3 k hk with h1 | h1
   ·exact HFD.out k h1
   ·exact ⟨by omega, fun hx => by have := h2 hx; omega⟩
  ·have h1 := hs3 k hk
   exact ⟨by omega, fun hx => by have := h2 hx; omega⟩)
 have HK3 := Hd K3;obtain ⟨_, c31, _, _, _, _⟩ := cells5 K3;clear hp hds hf3 hn3 hs3 K3 HD2 HX2 HB2 HK2 L2;have L3 : Hid (w.heap.size < w3.heap.size) := Hd (Array.getElem?_eq_some_iff.1 HK3.out).1;go_wp2_with fail;refine (RF.out w3 x FX HX3.out).mono ?_;rintro e w4 ⟨r, rfl, hf4⟩;have K4 := (hf4.block _ L3.out (fun h => by have := HFX.out _ h; omega)).trans HK3.out;have HD4 := Hd (show DS w4 d s (wrHead (DkS.fresh n) fmtH).1 (ShS.new fmtH) FD' FS from ⟨HD3.out.dk.frm hf4 (fun k hk => (HN3.out k (.inl hk)).2), HD3.out.sto.frm hf4 (fun k hk => (HN3.out k (.inr hk)).2), HD3.out.apart⟩)
 have HB4 : Hid (Below w.heap.size w w4) := Hd (HB3.out.trans (hf4.below (fun k hk => by have := HFX.out k hk; omega) HB3.out.size));obtain ⟨_, _, _, _, _, f4⟩ := cells5 K4;have f42 := f4 2;have f43 := f4 3;have sn := ptr_neS ⟨s, 0, none⟩;have rn := ptr_neR ⟨r, 0, none⟩;obtain ⟨w5, hw5⟩ : ∃ w5, (w4.setCell ⟨w.heap.size, 2, none⟩ (.pointer (some ⟨s, 0, none⟩))).setCell ⟨w.heap.size, 3, none⟩ (.pointer (some ⟨r, 0, none⟩)) = w5 := ⟨_, rfl⟩
 have K5 : w5.heap[w.heap.size]? = some (.cells #[.pointer (some ⟨d, 0, none⟩), .pointer (some ⟨x, 0, none⟩), .pointer (some ⟨s, 0, none⟩), .pointer (some ⟨r, 0, none⟩), .int .i64 0] 39) := by
  rw [← hw5, heap_setCell_same _ _ 3 _ _ _ (heap_setCell_same _ _ 2 _ _ _ K4)]
  rfl
 have F5 : Frm (fun k => k = w.heap.size) w4 w5 := by rw [← hw5]; exact (set_frm _).trans (set_frm _) fun _ h => .inl h
 have FIN : Hid (BegR w n (.returned (.tuple #[.pointer (some ⟨w.heap.size, 0, none⟩), .bool true])) w5) := by
  obtain ⟨g1, g2, g3, g4⟩ := FG.out;rw [dk_fresh_len] at g4;refine Hd ⟨w.heap.size, d, x, s, r, rfl, K5, Nat.le_refl _, HB4.out.trans (F5.below (fun k hk => by omega) HB4.out.size), fun k => FD' k ∨ FS k, ⟨_, _, ?_, g2, g3, g4, rfl⟩, fun k hk => by have := (HN3.out k hk).1; omega, fun k hk => ?_⟩
  ·refine SD.frm ⟨FD', FS, HD4.out, fun _ => Iff.rfl⟩ F5 fun k hk e => ?_
   have := (HN3.out k hk).1; omega
  ·rw [List.mem_singleton] at hk
   subst hk;exact ⟨(Array.getElem?_eq_some_iff.1 K5).1, fun h => by have := (HN3.out _ h).1; omega⟩
 clear hf4 f4 K4 K5 F5 HX3 HB3 HD3 HN3 HK3 L3 HD4 HB4 HFD HFX;go_upto_region 10 with fail
 try rw [hw5]
 clear hw5;go_wp2_with fail;go_ret2;exact FIN.out
def zrowV (q : Nat) : SP := ⟨fun v w => ∃ g, v = .slice (some ⟨g, 0, none⟩) q q ∧ Byt 5 w g (List.replicate q 0), fun _ _ _ ⟨g, h1, h2⟩ hb => ⟨g, h1, h2.below hb⟩⟩
def oneV (x : UInt8) : SP := ⟨fun v w => ∃ g, v = .slice (some ⟨g, 0, none⟩) 1 1 ∧ Byt 5 w g [x], fun _ _ _ ⟨g, h1, h2⟩ hb => ⟨g, h1, h2.below hb⟩⟩
def lawM (n : Int) : Nat := (if n < 0 then -(n + 1) else n).toNat
def lawV (n : Int) : ByteArray := Str (List.replicate (lawM n % 40) 0) ++ Str [UInt8.ofNat (lawM n % 256)]
theorem lawV_size (n : Int) : (lawV n).size ≤ 40 := by
 unfold lawV;rw [ByteArray.size_append, Str_size, Str_size, List.length_replicate];have := Nat.mod_lt (lawM n) (show 0 < 40 by decide);simp only [List.length_cons, List.length_nil];omega
theorem value_is (w : World) (n : Int) (h1 : -9223372036854775808 ≤ n) (h2 : n ≤ 9223372036854775807) :
  Calls Tryz.prog 17 #[.int .i64 n] w fun e w' => e = .returned (.string (lawV n)) ∧ Below w.heap.size w w' := by
 obtain ⟨m, hm⟩ : ∃ m, lawM n = m := ⟨_, rfl⟩
 obtain ⟨q, hq⟩ : ∃ q, m % 40 = q := ⟨_, rfl⟩
 obtain ⟨x, hx⟩ : ∃ x, UInt8.ofNat (m % 256) = x := ⟨_, rfl⟩
 obtain ⟨Z, hZ⟩ : ∃ Z, Str (List.replicate q (0 : UInt8)) = Z := ⟨_, rfl⟩
 obtain ⟨X1, hX1⟩ : ∃ X1, Str [x] = X1 := ⟨_, rfl⟩
 have FIN : Hid (lawV n = Z ++ X1) := Hd (by unfold lawV; rw [hm, hq, hx, hZ, hX1]);have HQ40 : Hid (q < 40) := Hd (by rw [← hq]; exact Nat.mod_lt _ (by decide));have HQ : Hid ((m : Int).tmod 40 = (q : Int)) := Hd (by rw [← hq]; rfl);have HZ := Hd hZ;have HX1 := Hd hX1;have HX : Hid (IntKind.u8.wrap (m : Int) = (x.toNat : Int)) := Hd (by rw [← hx, UInt8.toNat_ofNat']; show _ = _; rw [IntKind.wrap_u8]; omega)
 have HSZ : Hid ((9223372036854775807 < Z.size + X1.size) = False) := Hd (by
  rw [← hZ, ← hX1, Str_size, Str_size, List.length_replicate];have := HQ40.out;simp only [List.length_cons, List.length_nil];exact eq_false (by omega))
 clear hq hx hZ hX1
 by_cases hn : n < 0
 ·have hm' : -(n + 1) = (m : Int) := by rw [← hm]; unfold lawM; rw [if_pos hn]; omega
  have e1 : IntKind.i64.wrap (n + 1) = n + 1 := IntWalk.i64_in _ (by omega);have e2 : IntKind.i64.wrap (-(n + 1)) = (m : Int) := by rw [hm']; exact IntWalk.i64_in _ (by omega)
  clear hm hm';go_enter Tryz.func17, Tryz.ntmps17;go_wp2_with fail;refine region_kit 99 17 [eqV (.int .i64 (m : Int)), eqV (.int .i64 ((q : Nat) : Int)), zrowV q, eqV (.string Z), eqV (.int .i64 (m : Int)), eqV (.int .u8 (x.toNat : Int)), oneV x, eqV (.string X1), eqV (.string (Z ++ X1)), eqV (.string (Z ++ X1))] (by kernel_rfl) (by kernel_rfl) (by rfl) ?owes ?ends
  case owes =>
   refine Fo 0 (fun a wx hS xo xd K HK => ?_) ?_
   ·have d0 := Fl xo 0
    clear xo xd;go_simp;exact Hr HK
   refine Fo 1 (fun a wx hS xo xd K HK => ?_) ?_
   ·have d8 := Fq xd 0
    clear xo xd;have hq := HQ.out;go_simp;exact Hr HK
   refine Fo 2 (fun a wx hS xo xd K HK => ?_) ?_
   ·have d9 := Fq xd 1
    clear xo xd;obtain ⟨w3, hmk, hrow, hbel⟩ := made_bytes wx q q (Nat.le_refl _) (by have := HQ40.out; omega);have hmk' : (Instr.makeSlice 62 (.int .i64 (q : Int)) (.int .i64 (q : Int))).run Tryz.prog wx = .ok (.slice (some ⟨wx.heap.size, 0, none⟩) q q) w3 := hmk;clear hmk;go_simp;exact HK.out _ _ ⟨_, rfl, hrow⟩ hbel
   refine Fo 3 (fun a wx hS xo xd K HK => ?_) ?_
   ·obtain ⟨g10, d10, z10⟩ := Fr xd 2
    clear xo xd;have hcv := z10.conv q q (by rw [List.length_replicate]; exact Nat.le_refl _);rw [List.take_of_length_le (by rw [List.length_replicate]; exact Nat.le_refl _), HZ.out] at hcv;have hcv' : (convert 62 9 (.slice (some ⟨g10, 0, none⟩) q q)).run Tryz.prog wx = .ok (.string Z) wx := hcv;clear hcv;go_simp;exact Hr HK
   refine Fo 4 (fun a wx hS xo xd K HK => ?_) ?_
   ·have d0 := Fl xo 0
    clear xo xd;go_simp;exact Hr HK
   refine Fo 5 (fun a wx hS xo xd K HK => ?_) ?_
   ·have d12 := Fq xd 4
    clear xo xd;go_simp;refine HK.out _ _ ?_ Br
    show _ = _
    first | rfl | simp only [HX.out]
   refine Fo 6 (fun a wx hS xo xd K HK => ?_) ?_
   ·have d13 := Fq xd 5
    clear xo xd;go_simp;exact HK.out _ _ ⟨_, rfl, heap_alloc_new wx _⟩ (below_made _ _)
   refine Fo 7 (fun a wx hS xo xd K HK => ?_) ?_
   ·obtain ⟨g14, d14, z14⟩ := Fr xd 6
    clear xo xd;have hcv := z14.conv 1 1 (Nat.le_refl _);rw [show ([x] : List UInt8).take 1 = [x] from rfl, HX1.out] at hcv;have hcv' : (convert 62 9 (.slice (some ⟨g14, 0, none⟩) 1 1)).run Tryz.prog wx = .ok (.string X1) wx := hcv;clear hcv;go_simp;exact Hr HK
   refine Fo 8 (fun a wx hS xo xd K HK => ?_) ?_
   ·have d11 := Fq xd 3
    have d15 := Fq xd 7;clear xo xd;have hs := HSZ.out;go_simp;exact Hr HK
   refine Fo 9 (fun a wx hS xo xd K HK => ?_) ?_
   ·have d16 := Fq xd 8
    clear xo xd;go_simp;exact Hr HK
   exact OwesAll.nil
  case ends =>
   intro a wx hS hsz hdf hold hdone;simp only [List.getElem?_toArray, List.getElem?_cons_succ, List.getElem?_cons_zero, List.getElem?_nil];have hsz' : a.tmps.size = 17 := hsz;have hdf' : a.defers = [] := hdf;have ha := act_lit hsz' hdf';have e0 := hold 0 (unset_of (by kernel_rfl));have e1 := hold 1 (unset_of (by kernel_rfl));have e3 := hold 3 (unset_of (by kernel_rfl));have e4 := hold 4 (unset_of (by kernel_rfl));have e5 := hold 5 (unset_of (by kernel_rfl));have e6 := hold 6 (unset_of (by kernel_rfl));have e7 := hold 7 (unset_of (by kernel_rfl))
   have d8 : a.tmps.getD 8 undef = .int .i64 (m : Int) := hdone 0 _ 8 rfl (by decide) rfl;have d9 : a.tmps.getD 9 undef = .int .i64 ((q : Nat) : Int) := hdone 1 _ 9 rfl (by decide) rfl;have d11 : a.tmps.getD 11 undef = .string Z := hdone 3 _ 11 rfl (by decide) rfl;have d12 : a.tmps.getD 12 undef = .int .i64 (m : Int) := hdone 4 _ 12 rfl (by decide) rfl;have d13 : a.tmps.getD 13 undef = .int .u8 (x.toNat : Int) := hdone 5 _ 13 rfl (by decide) rfl;have d15 : a.tmps.getD 15 undef = .string X1 := hdone 7 _ 15 rfl (by decide) rfl
   have d16 : a.tmps.getD 16 undef = .string (Z ++ X1) := hdone 8 _ 16 rfl (by decide) rfl;have d2 : a.tmps.getD 2 undef = .string (Z ++ X1) := hdone 9 _ 2 rfl (by decide) rfl;clear hold hdone hsz hdf hsz' hdf';simp only [Array.getD_eq_getD_getElem?, List.getElem?_toArray, List.getElem?_cons_succ, List.getElem?_cons_zero, Option.getD_some] at e0 e1 e3 e4 e5 e6 e7 d8 d9 d11 d12 d13 d15 d16 d2;simp only [show (List.range 17) = [0, 1, 2, 3, 4, 5, 6, 7, 8, 9, 10, 11, 12, 13, 14, 15, 16] from rfl, List.map_cons, List.map_nil] at ha
   simp only [e0, e1, e3, e4, e5, e6, e7, d8, d9, d11, d12, d13, d15, d16, d2] at ha;clear e0 e1 e3 e4 e5 e6 e7 d8 d9 d11 d12 d13 d15 d16 d2;generalize a.tmps[10]?.getD undef = u10 at ha;generalize a.tmps[14]?.getD undef = u14 at ha;subst ha;have HB := Hd hS;clear hS;go_wp2_with fail;go_ret;exact ⟨by rw [FIN.out]; rfl, HB.out⟩
 ·obtain rfl : n = (m : Int) := by rw [← hm]; unfold lawM; rw [if_neg hn]; omega
  clear hm;go_enter Tryz.func17, Tryz.ntmps17;go_wp2_with fail;refine region_kit 99 17 [eqV (.int .i64 (m : Int)), eqV (.int .i64 ((q : Nat) : Int)), zrowV q, eqV (.string Z), eqV (.int .i64 (m : Int)), eqV (.int .u8 (x.toNat : Int)), oneV x, eqV (.string X1), eqV (.string (Z ++ X1)), eqV (.string (Z ++ X1))] (by kernel_rfl) (by kernel_rfl) (by rfl) ?owes ?ends
  case owes =>
   refine Fo 0 (fun a wx hS xo xd K HK => ?_) ?_
   ·have d0 := Fl xo 0
    clear xo xd;go_simp;exact Hr HK
   refine Fo 1 (fun a wx hS xo xd K HK => ?_) ?_
   ·have d8 := Fq xd 0
    clear xo xd;have hq := HQ.out;go_simp;exact Hr HK
   refine Fo 2 (fun a wx hS xo xd K HK => ?_) ?_
   ·have d9 := Fq xd 1
    clear xo xd;obtain ⟨w3, hmk, hrow, hbel⟩ := made_bytes wx q q (Nat.le_refl _) (by have := HQ40.out; omega);have hmk' : (Instr.makeSlice 62 (.int .i64 (q : Int)) (.int .i64 (q : Int))).run Tryz.prog wx = .ok (.slice (some ⟨wx.heap.size, 0, none⟩) q q) w3 := hmk;clear hmk;go_simp;exact HK.out _ _ ⟨_, rfl, hrow⟩ hbel
   refine Fo 3 (fun a wx hS xo xd K HK => ?_) ?_
   ·obtain ⟨g10, d10, z10⟩ := Fr xd 2
    clear xo xd;have hcv := z10.conv q q (by rw [List.length_replicate]; exact Nat.le_refl _);rw [List.take_of_length_le (by rw [List.length_replicate]; exact Nat.le_refl _), HZ.out] at hcv;have hcv' : (convert 62 9 (.slice (some ⟨g10, 0, none⟩) q q)).run Tryz.prog wx = .ok (.string Z) wx := hcv;clear hcv;go_simp;exact Hr HK
   refine Fo 4 (fun a wx hS xo xd K HK => ?_) ?_
   ·have d0 := Fl xo 0
    clear xo xd;go_simp;exact Hr HK
   refine Fo 5 (fun a wx hS xo xd K HK => ?_) ?_
   ·have d12 := Fq xd 4
    clear xo xd;go_simp;refine HK.out _ _ ?_ Br
    show _ = _
    first | rfl | simp only [HX.out]
   refine Fo 6 (fun a wx hS xo xd K HK => ?_) ?_
   ·have d13 := Fq xd 5
    clear xo xd;go_simp;exact HK.out _ _ ⟨_, rfl, heap_alloc_new wx _⟩ (below_made _ _)
   refine Fo 7 (fun a wx hS xo xd K HK => ?_) ?_
   ·obtain ⟨g14, d14, z14⟩ := Fr xd 6
    clear xo xd;have hcv := z14.conv 1 1 (Nat.le_refl _);rw [show ([x] : List UInt8).take 1 = [x] from rfl, HX1.out] at hcv;have hcv' : (convert 62 9 (.slice (some ⟨g14, 0, none⟩) 1 1)).run Tryz.prog wx = .ok (.string X1) wx := hcv;clear hcv;go_simp;exact Hr HK
   refine Fo 8 (fun a wx hS xo xd K HK => ?_) ?_
   ·have d11 := Fq xd 3
    have d15 := Fq xd 7;clear xo xd;have hs := HSZ.out;go_simp;exact Hr HK
   refine Fo 9 (fun a wx hS xo xd K HK => ?_) ?_
   ·have d16 := Fq xd 8
    clear xo xd;go_simp;exact Hr HK
   exact OwesAll.nil
  case ends =>
   intro a wx hS hsz hdf hold hdone;simp only [List.getElem?_toArray, List.getElem?_cons_succ, List.getElem?_cons_zero, List.getElem?_nil];have hsz' : a.tmps.size = 17 := hsz;have hdf' : a.defers = [] := hdf;have ha := act_lit hsz' hdf';have e0 := hold 0 (unset_of (by kernel_rfl));have e1 := hold 1 (unset_of (by kernel_rfl));have e3 := hold 3 (unset_of (by kernel_rfl));have e4 := hold 4 (unset_of (by kernel_rfl));have e5 := hold 5 (unset_of (by kernel_rfl));have e6 := hold 6 (unset_of (by kernel_rfl));have e7 := hold 7 (unset_of (by kernel_rfl))
   have d8 : a.tmps.getD 8 undef = .int .i64 (m : Int) := hdone 0 _ 8 rfl (by decide) rfl;have d9 : a.tmps.getD 9 undef = .int .i64 ((q : Nat) : Int) := hdone 1 _ 9 rfl (by decide) rfl;have d11 : a.tmps.getD 11 undef = .string Z := hdone 3 _ 11 rfl (by decide) rfl;have d12 : a.tmps.getD 12 undef = .int .i64 (m : Int) := hdone 4 _ 12 rfl (by decide) rfl;have d13 : a.tmps.getD 13 undef = .int .u8 (x.toNat : Int) := hdone 5 _ 13 rfl (by decide) rfl;have d15 : a.tmps.getD 15 undef = .string X1 := hdone 7 _ 15 rfl (by decide) rfl
   have d16 : a.tmps.getD 16 undef = .string (Z ++ X1) := hdone 8 _ 16 rfl (by decide) rfl;have d2 : a.tmps.getD 2 undef = .string (Z ++ X1) := hdone 9 _ 2 rfl (by decide) rfl;clear hold hdone hsz hdf hsz' hdf';simp only [Array.getD_eq_getD_getElem?, List.getElem?_toArray, List.getElem?_cons_succ, List.getElem?_cons_zero, Option.getD_some] at e0 e1 e3 e4 e5 e6 e7 d8 d9 d11 d12 d13 d15 d16 d2;simp only [show (List.range 17) = [0, 1, 2, 3, 4, 5, 6, 7, 8, 9, 10, 11, 12, 13, 14, 15, 16] from rfl, List.map_cons, List.map_nil] at ha
   simp only [e0, e1, e3, e4, e5, e6, e7, d8, d9, d11, d12, d13, d15, d16, d2] at ha;clear e0 e1 e3 e4 e5 e6 e7 d8 d9 d11 d12 d13 d15 d16 d2;generalize a.tmps[10]?.getD undef = u10 at ha;generalize a.tmps[14]?.getD undef = u14 at ha;subst ha;have HB := Hd hS;clear hS;go_wp2_with fail;go_ret;exact ⟨by rw [FIN.out]; rfl, HB.out⟩
def getW : List (Int × Value) → Int → Option Value
 | [], _ => none
 | p :: L, k => if p.1 = k then some p.2 else getW L k
def setW : List (Int × Value) → Int → Value → List (Int × Value)
 | [], k, v => [(k, v)]
 | p :: L, k, v => if p.1 = k then (k, v) :: L else p :: setW L k v
theorem getW_set (L : List (Int × Value)) (k : Int) (v : Value) (k' : Int) : getW (setW L k v) k' = if k' = k then some v else getW L k' := by
 induction L with
 | nil =>
  simp only [setW, getW]
  by_cases h : k = k'
  ·rw [if_pos h, if_pos h.symm]
  ·rw [if_neg h, if_neg (Ne.symm h)]
 | cons p L ih =>
  simp only [setW]
  by_cases h : p.1 = k
  ·rw [if_pos h]
   simp only [getW]
   by_cases h2 : k = k'
   ·rw [if_pos h2, if_pos h2.symm]
   ·rw [if_neg h2, if_neg (Ne.symm h2), if_neg (by rw [h]; exact h2)]
  ·rw [if_neg h]
   simp only [getW, ih]
   by_cases h2 : p.1 = k'
   ·rw [if_pos h2, if_neg (by rw [← h2]; exact h), if_pos h2]
   ·rw [if_neg h2, if_neg h2]
def delW : List (Int × Value) → Int → List (Int × Value)
 | [], _ => []
 | p :: L, k => if p.1 = k then L else p :: delW L k
theorem mem_delW {L : List (Int × Value)} {k x : Int} (h : x ∈ (delW L k).map (·.1)) : x ∈ L.map (·.1) := by
 induction L with
 | nil => exact h
 | cons p L ih =>
  simp only [delW] at h
  split at h
  ·exact List.mem_cons_of_mem _ h
  ·rw [List.map_cons] at h ⊢
   rcases List.mem_cons.1 h with h | h
   ·exact h ▸ List.mem_cons_self ..
   ·exact List.mem_cons_of_mem _ (ih h)
theorem delW_nodup {L : List (Int × Value)} (k : Int) (h : (L.map (·.1)).Nodup) : ((delW L k).map (·.1)).Nodup := by
 induction L with
 | nil => exact h
 | cons p L ih =>
  rw [List.map_cons, List.nodup_cons] at h;simp only [delW]
  split
  ·exact h.2
  ·rw [List.map_cons, List.nodup_cons]
   exact ⟨fun hx => h.1 (mem_delW hx), ih h.2⟩
theorem mem_setW {L : List (Int × Value)} {k x : Int} {v : Value} : x ∈ (setW L k v).map (·.1) ↔ x = k ∨ x ∈ L.map (·.1) := by
 induction L with
 | nil => simp [setW]
 | cons p L ih =>
  simp only [setW]
  split
  ·rename_i hp
   simp only [List.map_cons, List.mem_cons, hp];exact ⟨fun h => h.elim .inl (fun h => .inr (.inr h)), fun h => h.elim .inl id⟩
  ·simp only [List.map_cons, List.mem_cons, ih]
   exact ⟨fun h => h.elim (fun h => .inr (.inl h)) (fun h => h.elim .inl (fun h => .inr (.inr h))), fun h => h.elim (fun h => .inr (.inl h)) (fun h => h.elim .inl (fun h => .inr (.inr h)))⟩
theorem setW_nodup {L : List (Int × Value)} (k : Int) (v : Value) (h : (L.map (·.1)).Nodup) : ((setW L k v).map (·.1)).Nodup := by
 induction L with
 | nil => simp [setW]
 | cons p L ih =>
  rw [List.map_cons, List.nodup_cons] at h;simp only [setW]
  split
  ·rename_i hp
   rw [List.map_cons, List.nodup_cons];exact ⟨hp ▸ h.1, h.2⟩
  ·rename_i hp
   rw [List.map_cons, List.nodup_cons];refine ⟨fun hx => ?_, ih h.2⟩
   rcases mem_setW.1 hx with hx | hx
   ·exact hp hx
   ·exact h.1 hx
theorem getW_mem {L : List (Int × Value)} {k : Int} : (getW L k).isSome = true ↔ k ∈ L.map (·.1) := by
 induction L with
 | nil => simp [getW]
 | cons p L ih =>
  simp only [getW, List.map_cons, List.mem_cons]
  split
  ·rename_i hp; simp [hp]
  ·rename_i hp
   rw [ih];exact ⟨.inr, fun h => h.elim (fun h => absurd h.symm hp) id⟩
theorem getW_del {L : List (Int × Value)} (h : (L.map (·.1)).Nodup) (k k' : Int) : getW (delW L k) k' = if k' = k then none else getW L k' := by
 induction L with
 | nil => simp [delW, getW]
 | cons p L ih =>
  rw [List.map_cons, List.nodup_cons] at h;simp only [delW]
  by_cases hp : p.1 = k
  ·rw [if_pos hp]
   by_cases hk : k' = k
   ·rw [if_pos hk]
    cases hg : getW L k' with
    | none => rfl
    | some v =>
     exfalso
     refine h.1 ?_;rw [hp, ← hk];exact getW_mem.1 (by rw [hg]; rfl)
   ·rw [if_neg hk]
    simp only [getW];rw [if_neg (fun (e : p.1 = k') => hk (e.symm.trans hp))]
  ·rw [if_neg hp]
   simp only [getW, ih h.2]
   by_cases h2 : p.1 = k'
   ·rw [if_pos h2, if_pos h2, if_neg (fun e => hp (h2.trans e))]
   ·rw [if_neg h2, if_neg h2]
def EntW (L : List (Int × Value)) (l : List MapEntry) : Prop := l.map (fun e => (e.key, e.val)) = L.map (fun p => (Value.int .u64 p.1, p.2))
def MapW (w : World) (m : Nat) (L : List (Int × Value)) : Prop := ∃ es clock, w.heap[m]? = some (.map es clock) ∧ EntW L es.toList
theorem MapW.lt {w : World} {m : Nat} {L : List (Int × Value)} (h : MapW w m L) : m < w.heap.size := by
 obtain ⟨es, c, hb, _⟩ := h;exact (Array.getElem?_eq_some_iff.1 hb).1
theorem MapW.kept {w w' : World} {m : Nat} {L : List (Int × Value)} (h : MapW w m L) (e : w'.heap[m]? = w.heap[m]?) : MapW w' m L := by
 obtain ⟨es, c, hb, he⟩ := h;exact ⟨es, c, e.trans hb, he⟩
theorem MapW.below {w w' : World} {m : Nat} {L : List (Int × Value)} (h : MapW w m L) (hb : Below w.heap.size w w') : MapW w' m L := h.kept (hb.block _ h.lt)
def dW : TypeDesc := .int .u64
theorem same_W (a b : Int) : Instr.sameNow dW (.int .u64 a) (.int .u64 b) = some (a == b) := by simp [Instr.sameNow, dW]
theorem findW (n : Int) : ∀ (l : List MapEntry) (L : List (Int × Value)) (i : Nat), EntW L l →
  (Instr.findNow dW (.int .u64 n) l i = some none ∧ getW L n = none ∧ ∀ v, setW L n v = L ++ [(n, v)]) ∨ ∃ j v, Instr.findNow dW (.int .u64 n) l i = some (some (i + j, v)) ∧ j < l.length ∧ getW L n = some v ∧ L.map (·.1) = L.map (·.1) ∧ ∀ v', setW L n v' = L.set j (n, v')
 | [], L, _, h => by
  cases L with
  | nil => exact .inl ⟨rfl, rfl, fun _ => rfl⟩
  | cons p L => simp [EntW] at h
 | e :: l, [], _, h => by simp [EntW] at h
 | e :: l, p :: L, i, h => by
  simp only [EntW, List.map_cons, List.cons.injEq, Prod.mk.injEq] at h
  by_cases hp : p.1 = n
  ·refine .inr ⟨0, p.2, ?_, by simp, ?_, rfl, ?_⟩
   ·have hs : Instr.sameNow dW (.int .u64 n) e.key = some true := by rw [h.1.1, same_W, hp]; simp
    simp only [Instr.findNow, hs, h.1.2, Nat.add_zero]
   ·simp only [getW]; rw [if_pos hp]
   ·intro v'; simp only [setW]; rw [if_pos hp]; rfl
  ·have hs : Instr.sameNow dW (.int .u64 n) e.key = some false := by
    rw [h.1.1, same_W]
    congr 1
    rw [beq_eq_false_iff_ne];exact Ne.symm hp
   rcases findW n l L (i + 1) h.2 with ⟨h1, h2, h3⟩ | ⟨j, v, h1, h2, h3, _, h4⟩
   ·refine .inl ⟨by simp only [Instr.findNow, hs]; exact h1, by simp only [getW]; rw [if_neg hp]; exact h2, fun v => ?_⟩
    simp only [setW]; rw [if_neg hp, h3]; rfl
   ·refine .inr ⟨j + 1, v, by simp only [Instr.findNow, hs]; rw [h1]; congr 3; omega, by simpa using h2, by simp only [getW]; rw [if_neg hp]; exact h3, rfl, fun v' => ?_⟩
    simp only [setW]; rw [if_neg hp, h4]; rfl
theorem find_del (n : Int) : ∀ (l : List MapEntry) (L : List (Int × Value)) (i : Nat), EntW L l →
  (Instr.findNow dW (.int .u64 n) l i = some none ∧ delW L n = L) ∨ ∃ j v, Instr.findNow dW (.int .u64 n) l i = some (some (i + j, v)) ∧ j < l.length ∧ delW L n = L.eraseIdx j
 | [], L, _, h => by
  cases L with
  | nil => exact .inl ⟨rfl, rfl⟩
  | cons p L => simp [EntW] at h
 | e :: l, [], _, h => by simp [EntW] at h
 | e :: l, p :: L, i, h => by
  simp only [EntW, List.map_cons, List.cons.injEq, Prod.mk.injEq] at h
  by_cases hp : p.1 = n
  ·refine .inr ⟨0, p.2, ?_, by simp, ?_⟩
   ·have hs : Instr.sameNow dW (.int .u64 n) e.key = some true := by rw [h.1.1, same_W, hp]; simp
    simp only [Instr.findNow, hs, h.1.2, Nat.add_zero]
   ·simp only [delW]; rw [if_pos hp]; rfl
  ·have hs : Instr.sameNow dW (.int .u64 n) e.key = some false := by
    rw [h.1.1, same_W]
    congr 1
    rw [beq_eq_false_iff_ne];exact Ne.symm hp
   rcases find_del n l L (i + 1) h.2 with ⟨h1, h2⟩ | ⟨j, v, h1, h2, h3⟩
   ·refine .inl ⟨by simp only [Instr.findNow, hs]; exact h1, ?_⟩
    simp only [delW]; rw [if_neg hp, h2]
   ·refine .inr ⟨j + 1, v, by simp only [Instr.findNow, hs]; rw [h1]; congr 3; omega, by simpa using h2, ?_⟩
    simp only [delW]; rw [if_neg hp, h3]; rfl
section
variable {P : Program} {w : World} {m : Nat} {L : List (Int × Value)} {t k e : TypeId} (ht : P.underlying t = some (.map k e)) (hk : P.underlying k = some (.int .u64))
include ht hk
theorem lookupW (h : MapW w m L) (n : Int) (z : Value) (hz : (zeroValue e).run P w = .ok z w) (ok : Bool) :
  (Instr.lookup t (.map (some m)) (.int .u64 n) ok).run P w = .ok (if ok then .tuple #[((getW L n).getD z), .bool (getW L n).isSome] else ((getW L n).getD z)) w := by
 obtain ⟨es, c, hb, he⟩ := h;have h1 := MapKept.run_getObj_map (P := P) hb;have h2 := MapKept.run_checkKey (P := P) (w := w) hk (k := .int .u64 n) (by first | rfl | trivial | exact ⟨_, rfl⟩) es.isEmpty 9999
 rcases findW n es.toList L 0 he with ⟨f1, f2, _⟩ | ⟨j, v, f1, _, f2, _, _⟩
 ·have h3 := MapKept.run_findKey (P := P) (w := w) hk f1
  rw [f2]
  cases ok <;> simp [Instr.lookup, run_underlying ht, h1, h2, h3, hz]
 ·have h3 := MapKept.run_findKey (P := P) (w := w) hk f1
  rw [f2]
  cases ok <;> simp [Instr.lookup, run_underlying ht, h1, h2, h3]
theorem updateW (h : MapW w m L) (n : Int) (v : Value) :
  ∃ o, (Instr.mapUpdate t (.map (some m)) (.int .u64 n) v).run P w = .ok () { w with heap := w.heap.setIfInBounds m o } ∧ MapW { w with heap := w.heap.setIfInBounds m o } m (setW L n v) := by
 obtain ⟨es, c, hb, he⟩ := h;have h1 := MapKept.run_getObj_map (P := P) hb;have h2 := MapKept.run_checkKey (P := P) (w := w) hk (k := .int .u64 n) (by first | rfl | trivial | exact ⟨_, rfl⟩) false 9999
 rcases findW n es.toList L 0 he with ⟨f1, f2, f3⟩ | ⟨j, u, f1, fj, f2, _, f3⟩
 ·have h3 := MapKept.run_findKey (P := P) (w := w) hk f1
  have h4 := MapKept.run_setObj_map (P := P) (.map (es.push { key := .int .u64 n, val := v, born := c }) (c + 1)) hb;refine ⟨_, by simp [Instr.mapUpdate, run_underlying ht, h1, h2, h3, h4]; rfl, ?_⟩;refine ⟨_, _, (MapKept.heap_set hb).1, ?_⟩;unfold EntW at *;rw [f3, Array.toList_push, List.map_append, he, List.map_append]
  rfl
 ·have h3 := MapKept.run_findKey (P := P) (w := w) hk f1
  rw [Nat.zero_add] at h3
  have hke : ∀ e, es[j]? = some e → e.key = .int .u64 n := by
   intro e hej;have hl : L.length = es.toList.length := by have := congrArg List.length he; simpa using this.symm
   have h5 := f3 v;have e1 : (es.toList.map (fun e => (e.key, e.val)))[j]? = some (e.key, e.val) := by rw [List.getElem?_map, Array.getElem?_toList, hej]; rfl
   rw [he, List.getElem?_map] at e1;have hjL : j < L.length := by rw [hl]; exact fj
   rw [List.getElem?_eq_getElem hjL] at e1;simp only [Option.map_some, Option.some.injEq, Prod.mk.injEq] at e1
   have hn : L[j].1 = n := by
    have : ∀ (l : List MapEntry) (L : List (Int × Value)) (i j : Nat) (x : Value), EntW L l → Instr.findNow dW (.int .u64 n) l i = some (some (i + j, x)) → ∀ h : j < L.length, L[j].1 = n := by
     intro l
     induction l with
     | nil => intro L i j x _ hf; simp [Instr.findNow] at hf
     | cons a l ih =>
      intro L i j x hE hf hj
      cases L with
      | nil => cases hj
      | cons p L =>
       simp only [EntW, List.map_cons, List.cons.injEq, Prod.mk.injEq] at hE;simp only [Instr.findNow] at hf;rw [hE.1.1, same_W] at hf
       by_cases hp : n = p.1
       ·simp [hp] at hf
        obtain rfl : j = 0 := by omega
        exact hp.symm
       ·rw [show (n == p.1) = false from by simpa using hp] at hf
        simp only at hf
        cases j with
        | zero =>
         exfalso
         have hgt : ∀ (l : List MapEntry) (i : Nat) (r : Nat) (x : Value), Instr.findNow dW (.int .u64 n) l i = some (some (r, x)) → i ≤ r := by
          intro l
          induction l with
          | nil => intro i r x h; simp [Instr.findNow] at h
          | cons b l ih =>
           intro i r x h;simp only [Instr.findNow] at h
           split at h
           ·simp at h; omega
           ·have := ih _ _ _ h; omega
           ·cases h
         have := hgt l (i + 1) (i + 0) x hf;omega
        | succ j => exact ih L (i + 1) j x hE.2 (by rw [show i + 1 + j = i + (j + 1) from by omega]; exact hf) (by simpa using hj)
    exact this es.toList L 0 j _ he f1 hjL
   rw [← e1.1, hn]
  have h4 := MapKept.run_setObj_map (P := P) (.map (es.modify j fun e => { e with key := .int .u64 n, val := v }) c) hb
  have h6 : (Instr.keyThatStays (((es[j]?).map (·.key)).getD (.int .u64 n)) (.int .u64 n)).run P w = .ok (.int .u64 n) w := by
   have : ((es[j]?).map (·.key)).getD (.int .u64 n) = .int .u64 n := by
    cases hq : es[j]? with
    | none => rfl
    | some e => simp [hke e hq]
   rw [this];exact MapKept.run_keyThatStays (d := dW) (by first | rfl | trivial | exact ⟨_, rfl⟩)
  refine ⟨_, by simp [Instr.mapUpdate, run_underlying ht, h1, h2, h3, h6, h4]; rfl, ?_⟩;refine ⟨_, _, (MapKept.heap_set hb).1, ?_⟩;unfold EntW at *;rw [f3 v, List.map_set, ← he];apply List.ext_getElem?;intro i;rw [List.getElem?_map, Array.getElem?_toList, Array.getElem?_modify, List.getElem?_set]
  by_cases hij : j = i
  ·subst hij
   rw [if_pos rfl, if_pos rfl, if_pos (by simpa using fj)];have : j < es.size := by simpa using fj
   rw [Array.getElem?_eq_getElem this]
   rfl
  ·rw [if_neg hij, if_neg hij, List.getElem?_map, Array.getElem?_toList]
omit hk in
theorem lenW (h : MapW w m L) (ty : TypeId) : (Builtin.len_ #[t] ty #[.map (some m)]).run P w = .ok (.int .i64 (L.length : Int)) w := by
 obtain ⟨es, c, hb, he⟩ := h;have h1 := MapKept.run_getObj_map (P := P) hb;have hl : es.size = L.length := by have := congrArg List.length he; simpa using this
 simp [Builtin.len_, run_underlying ht, h1, goInt, hl]
theorem updateWB (h : MapW w m L) (n : Int) (v : Value) :
  ∃ w', (Instr.mapUpdate t (.map (some m)) (.int .u64 n) v).run P w = .ok () w' ∧ MapW w' m (setW L n v) ∧ Below m w w' ∧ w'.heap.size = w.heap.size ∧ Frm (fun x => x = m) w w' := by
 obtain ⟨o, h1, h2⟩ := updateW ht hk h n v;obtain ⟨es, c, hb, _⟩ := h;refine ⟨_, h1, h2, ⟨rfl, rfl, rfl, by simp, fun k hk => (MapKept.heap_set hb).2 k (Nat.ne_of_lt hk)⟩, by simp, (Frm.refl _ w).setObj m o (.inl rfl)⟩
theorem deleteWB (h : MapW w m L) (n : Int) (ty : TypeId) :
  ∃ w', (Builtin.delete_ #[t, k] ty #[.map (some m), .int .u64 n]).run P w = .ok (.tuple #[]) w' ∧ MapW w' m (delW L n) ∧ Below m w w' ∧ w'.heap.size = w.heap.size ∧ Frm (fun x => x = m) w w' := by
 obtain ⟨es, c, hb, he⟩ := h;have h1 := MapKept.run_getObj_map (P := P) hb;have h2 := MapKept.run_checkKey (P := P) (w := w) hk (k := .int .u64 n) (by first | rfl | trivial | exact ⟨_, rfl⟩) es.isEmpty 9999;have F : ∀ o, Frm (fun x => x = m) w { w with heap := w.heap.setIfInBounds m o } := fun o => (Frm.refl _ w).setObj m o (.inl rfl)
 rcases find_del n es.toList L 0 he with ⟨f1, f2⟩ | ⟨j, u, f1, fj, f2⟩
 ·have h3 := MapKept.run_findKey (P := P) (w := w) hk f1
  have h4 := MapKept.run_setObj_map (P := P) (.map es c) hb;refine ⟨_, by simp [Builtin.delete_, run_underlying ht, h1, h2, h3, h4]; rfl, ?_⟩;exact ⟨⟨_, _, (MapKept.heap_set hb).1, by rw [f2]; exact he⟩, ⟨rfl, rfl, rfl, by simp, fun k hk => (MapKept.heap_set hb).2 k (Nat.ne_of_lt hk)⟩, by simp, F _⟩
 ·have h3 := MapKept.run_findKey (P := P) (w := w) hk f1
  rw [Nat.zero_add] at h3;have h4 := MapKept.run_setObj_map (P := P) (.map (es.eraseIdxIfInBounds j) c) hb;refine ⟨_, by simp [Builtin.delete_, run_underlying ht, h1, h2, h3, h4]; rfl, ?_⟩;refine ⟨⟨_, _, (MapKept.heap_set hb).1, ?_⟩, ⟨rfl, rfl, rfl, by simp, fun k hk => (MapKept.heap_set hb).2 k (Nat.ne_of_lt hk)⟩, by simp, F _⟩;unfold EntW at *
  have e1 : (es.eraseIdxIfInBounds j).toList = es.toList.eraseIdx j := by
   unfold Array.eraseIdxIfInBounds;have : j < es.size := by simpa using fj
   rw [dif_pos this, Array.toList_eraseIdx]
  have me : ∀ {α β : Type} (f : α → β) (l : List α) (i : Nat), (l.eraseIdx i).map f = (l.map f).eraseIdx i := by
   intro α β f l
   induction l with
   | nil => intro i; simp
   | cons a l ih => intro i; cases i with | zero => rfl | succ i => simp [ih]
  rw [e1, f2, me, me, he]
end
theorem int_cellA {w : World} {a : Option Addr} {len cap : Nat} {zs : List Int} (hk : IsInts .i64 w a len cap zs) (j : Nat) (hj : j < len) : ∃ (x : Addr) (z : Int), a = some x ∧ zs.getD j 0 = z ∧ (-9223372036854775808 ≤ z ∧ z ≤ 9223372036854775807) ∧ Hid (∀ wr, Below w.heap.size w wr → wr.cell? (x.add j) = some (.int .i64 z)) := by
 rcases hk with ⟨rfl, rfl, rfl, rfl⟩ | ⟨x, rfl, h1, h2, h3, h4, h5⟩
 ·omega
 ·have hjl : j < zs.length := by omega
  refine ⟨x, _, rfl, rfl, ?_, Hd fun wr hb => ?_⟩
  ·have hm : zs.getD j 0 ∈ zs := by
    rw [List.getD_eq_getElem?_getD, List.getElem?_eq_getElem hjl];exact List.getElem_mem hjl
   have hw := h5 _ hm;generalize zs.getD j 0 = z at hw ⊢;simp [Lit.wf] at hw;have e1 : IntKind.i64.min = -9223372036854775808 := by rfl
   have e2 : IntKind.i64.max = 9223372036854775807 := by rfl
   omega
  ·have hc := h4 j hjl
   have hlt : (x.add j).block < w.heap.size := by
    unfold World.cell? at hc
    cases hq : w.heap[(x.add j).block]? with
    | none => rw [hq] at hc; simp at hc
    | some b => exact (Array.getElem?_eq_some_iff.1 hq).1
   exact (hb.cell hlt).trans hc
theorem ints_len {w : World} {a : Option Addr} {len cap : Nat} {zs : List Int} (hk : IsInts .i64 w a len cap zs) : (len : Int) ≤ 9223372036854775807 := by
 rcases hk with ⟨_, rfl, _, _⟩ | ⟨_, _, h1, h2, _⟩
 ·decide
 ·unfold maxLen at h2; omega
theorem examples_yes11 (w : World) :
  Calls Tryz.prog 13 #[] w fun e w' => e = .returned (.bool true) ∧ Below w.heap.size w w' := by
 have NY := Hd fun w => new_yes w 20 (by decide) (by decide)
 have FG := Hd (fmt_good (DkS.fresh 20) rfl rfl (by decide) (by decide));obtain ⟨V, hV⟩ : ∃ V : ByteArray, (⟨#[102, 105, 118, 101]⟩ : ByteArray) = V := ⟨_, rfl⟩
 have HV := Hd hV;have hvv : V.toList == [102, 105, 118, 101] := by rw [← hV]; decide +kernel
 go_enter Tryz.func13, Tryz.ntmps13;try simp only [List.append_eq, List.cons_append, List.nil_append]
 go_wp2_with fail;refine (NY.out _).mono ?_;rintro e w1 ⟨d, FD, rfl, hd, hb, hF⟩;have HD := Hd hd;have HB := Hd hb;have HF := Hd hF;have pn := ptr_nilD ⟨d, 0, none⟩;clear hd hb hF NY;go_wp2_with fail;refine (format_is w1 d (DkS.fresh 20) FD HD.out).mono ?_;intro e w3 hp;obtain ⟨v, rfl, s, FS, FD', rfl, hds, hf3, hn3, hs3⟩ := hp.1 FG.out.1
 have T0 : Hid (TrR w [] w3 d s 20 0 []) := by
  obtain ⟨g1, g2, g3, g4⟩ := FG.out;refine Hd ⟨HB.out.trans (hf3.below (fun k hk => HF.out k hk) HB.out.size), fun k => FD' k ∨ FS k, ⟨_, _, ⟨FD', FS, hds, fun _ => Iff.rfl⟩, g2, g3, g4, rfl⟩, fun k hk => ?_, fun k hk => by cases hk⟩;have := HB.out.size
  rcases hk with hk | hk
  ·rcases hn3 k hk with h1 | h1
   ·exact HF.out k h1
   ·omega
  ·have := hs3 k hk; omega
 have pn2 := ptr_nilS ⟨s, 0, none⟩;clear hp hds hf3 hn3 hs3 HD HB HF FG
 have PU : Hid (Calls Tryz.prog 16 #[.pointer (some ⟨s, 0, none⟩), .int .i64 0, .int .u64 5, .string V] w3 fun e w' => ∃ q, e = .returned (.tuple #[.int .i64 q, .int .i64 0]) ∧ TrR w [] w' d s 20 q [(5, V)] ∧ KeptL [] w3 w') := Hd (by
  have := put_R T0.out 0 (by decide) (by simp) (by simp) 5 (by decide) V (by rw [← HV.out]; decide);exact this)
 go_wp2_with fail;refine PU.out.mono ?_;rintro e w4 ⟨q, rfl, hT, hKK⟩;clear hKK;have T1 := Hd hT
 have GE : Hid (Calls Tryz.prog 22 #[.pointer (some ⟨s, 0, none⟩), .int .i64 q, .int .u64 5] w4 fun e w' => e = .returned (.tuple #[.string V, .bool true, .int .i64 0]) ∧ Below w4.heap.size w4 w') := Hd (by
  have := get_R hT (by simp) 5 (by decide);rw [show getV 5 [(5, V)] = V from by simp [getV, getE], show getB 5 [(5, V)] = true from by simp [getB, getE]] at this;exact this)
 clear hT PU T0;go_wp2_with fail;refine GE.out.mono ?_;rintro e w5 ⟨rfl, b5⟩;have T2 := Hd (T1.out.below b5);clear b5 T1 GE;go_wp2_with fail;refine (getNil_R T2.out 5 (by decide)).mono ?_;rintro e w6 ⟨rfl, b6⟩;have T3 := Hd (T2.out.below b6);clear b6 T2
 have DE : Hid (Calls Tryz.prog 18 #[.pointer (some ⟨s, 0, none⟩), .int .i64 q, .int .u64 5] w6 fun e w' => e = .returned (.tuple #[.int .i64 0, .bool true, .int .i64 0]) ∧ Below w.heap.size w w') := Hd (by
  have := del_R T3.out 0 (by decide) (by simp) (by simp) 5 (by decide);rw [show getB 5 [(5, V)] = true from by simp [getB, getE]] at this;refine this.mono ?_;rintro e w' ⟨q2, rfl, hT, hKK⟩;obtain rfl : q2 = 0 := root_nil hT (by simp [delE]);exact ⟨rfl, hT.size⟩)
 go_wp2_with fail;refine DE.out.mono ?_;rintro e w7 ⟨rfl, b7⟩;have HBB := Hd b7;clear b7 DE T3;go_wp2_with fail;go_ret;exact ⟨rfl, HBB.out⟩
theorem rowsE_at : ∀ (L : List Ent) (j : Nat) (e : Ent), L[j]? = some e → (rowsE L)[j * 2]? = some (.int .u64 e.1) ∧ (rowsE L)[j * 2 + 1]? = some (.string e.2) := by
 intro L
 induction L with
 | nil => intro j e h; simp at h
 | cons x L ih =>
  intro j e h;have hc : rowsE (x :: L) = .int .u64 x.1 :: .string x.2 :: rowsE L := by simp [rowsE, rowE]
  rw [hc]
  cases j with
  | zero => simp at h; subst h; exact ⟨rfl, rfl⟩
  | succ j =>
   have := ih j e (by simpa using h);rw [show (j + 1) * 2 = j * 2 + 1 + 1 by omega];exact ⟨this.1, this.2⟩
def RowE (w : World) (v : Value) (L : List Ent) : Prop := w.ownsRow 0 50 2 v L.length (rowsE L)
theorem RowE.shape {w : World} {v : Value} {L : List Ent} (h : RowE w v L) : ∃ a c, v = .slice a L.length c := by
 obtain ⟨a, c, h1, _, _⟩ := own_shape7 h;exact ⟨a, c, h1⟩
theorem RowE.at {w : World} {a : Option Addr} {c : Nat} {L : List Ent} (h : RowE w (.slice a L.length c) L) {j : Nat} {e : Ent} (he : L[j]? = some e) : ∃ g, a = some ⟨g, 0, none⟩ ∧ g < w.heap.size ∧ w.cell? ⟨g, j * 2, none⟩ = some (.int .u64 e.1) ∧ w.cell? ⟨g, j * 2 + 1, none⟩ = some (.string e.2) := by
 have hj : j < L.length := (List.getElem?_eq_some_iff.1 he).1;obtain ⟨r1, r2⟩ := rowsE_at L j e he
 rcases h.2 with ⟨_, h0⟩ | ⟨g, cap, cur, hv, _, hh, _⟩
 ·omega
 ·injection hv with h1 h2 h3
  subst h1 h3;exact ⟨g, rfl, (Array.getElem?_eq_some_iff.1 hh).1, (h.cellAt (j * 2) (by omega)).trans r1, (h.cellAt (j * 2 + 1) (by omega)).trans r2⟩
theorem RowE.kept {w w' : World} {v : Value} {L : List Ent} (h : RowE w v L) (hk : ∀ k, v.ownBlock = some k → w'.heap[k]? = w.heap[k]?) : RowE w' v L := by
 refine ⟨h.1, ?_⟩
 rcases h.2 with hx | ⟨g, cap, cur, hv, hbg, hh, r⟩
 ·exact .inl hx
 ·exact .inr ⟨g, cap, cur, hv, hbg, (hk g (by rw [hv]; rfl)).trans hh, r⟩
theorem RowE.below {w w' : World} {v : Value} {L : List Ent} (h : RowE w v L) (hb : Below w.heap.size w w') : RowE w' v L := h.kept fun k hk => hb.block k (World.ownsRow.lt h k hk).2
theorem scan_R {w0 : World} {R : List Nat} {w : World} {d s n : Nat} {root : Int} {E : List Ent} (h : TrR w0 R w d s n root E) (hE : E.length ≤ 600) (key most : Int) :
  Calls Tryz.prog 19 #[.pointer (some ⟨s, 0, none⟩), .int .i64 root, .int .u64 key, .int .i64 most] w fun e w' => ∃ v, e = .returned (.tuple #[v, .int .i64 0]) ∧ RowE w' v ((scanE key E).take most.toNat) ∧ TrR w0 (v.ownBlock.toList ++ R) w' d s n root E ∧ KeptL R w w' ∧ ∀ k, v.ownBlock = some k → w.heap.size ≤ k := by
 obtain ⟨hb, F, ⟨dk, st, h1, G, ht, hl, hh⟩, hF, hR⟩ := h;refine (scan_is w d s dk st F h1 G root E ht hE key most).mono ?_;rintro e w' ⟨v, rfl, ho, hp, hf⟩;have hlo := ho.lt;have hlt := h1.lt;refine ⟨v, rfl, ⟨ho.1, ho.2.imp id fun ⟨g, cap, cur, hv, _, r⟩ => ⟨g, cap, cur, hv, Nat.zero_le _, r⟩⟩, ⟨hb.trans (hf.below hF hb.size), F, ⟨dk, st, hp, G, ht, hl, hh⟩, hF, fun k hk => ?_⟩, fun k hk => hf.block k (hR k hk).1 (hR k hk).2, fun k hk => (hlo k hk).1⟩
 rcases List.mem_append.1 hk with hk | hk
 ·have hk' : v.ownBlock = some k := by simpa using hk
  exact ⟨(hlo k hk').2, fun hx => by have := hlt k hx; have := (hlo k hk').1; omega⟩
 ·exact ⟨Nat.lt_of_lt_of_le (hR k hk).1 hf.size, (hR k hk).2⟩
structure MpR (L : List (Int × Value)) (E : List Ent) : Prop where
 nd : (L.map (·.1)).Nodup
 ge : ∀ k, getW L k = (getE k E).map Value.string
 so : SortE E
 ky : ∀ k ∈ keysE E, 0 ≤ k ∧ k ≤ 18446744073709551615
theorem MpR.start : MpR [] [] := ⟨List.nodup_nil, fun k => rfl, List.Pairwise.nil, fun k h => by simp [keysE] at h⟩
theorem MpR.put {L : List (Int × Value)} {E : List Ent} (h : MpR L E) {k : Int} (hk : 0 ≤ k ∧ k ≤ 18446744073709551615) (v : ByteArray) : MpR (setW L k (.string v)) (insE k v E) := by
 refine ⟨setW_nodup _ _ h.nd, fun x => ?_, sortE_ins h.so _ _, fun x hx => ?_⟩
 ·rw [getW_set, getE_ins]
  split
  ·rfl
  ·exact h.ge x
 ·rcases mem_insE.1 hx with rfl | hx
  ·exact hk
  ·exact h.ky x hx
theorem MpR.del {L : List (Int × Value)} {E : List Ent} (h : MpR L E) (k : Int) : MpR (delW L k) (delE k E) := by
 refine ⟨delW_nodup _ h.nd, fun x => ?_, sortE_del h.so _, fun x hx => h.ky x (mem_delE.1 hx).2⟩;rw [getW_del h.nd, getE_del]
 split
 ·rfl
 ·exact h.ge x
theorem MpR.len {L : List (Int × Value)} {E : List Ent} (h : MpR L E) : L.length = E.length := by
 have hp : (L.map (·.1)).Perm (keysE E) := (List.perm_ext_iff_of_nodup h.nd (sortE_nodup h.so)).2 fun x => by
  rw [← getW_mem, ← getB_iff, h.ge x];unfold getB;rw [Option.isSome_map]
 have := hp.length_eq;unfold keysE at this
 simpa using this
theorem MpR.look {L : List (Int × Value)} {E : List Ent} (h : MpR L E) (k : Int) : (getW L k).getD (.string ByteArray.empty) = .string (getV k E) ∧ (getW L k).isSome = getB k E := by
 rw [h.ge k];unfold getV getB
 cases getE k E with
 | none => exact ⟨rfl, rfl⟩
 | some v => exact ⟨rfl, rfl⟩
theorem MpR.all {L : List (Int × Value)} {E : List Ent} (h : MpR L E) : scanE 0 E = E := List.filter_eq_self.2 fun e he => decide_eq_true (h.ky e.1 (mem_keysE.2 ⟨e.2, he⟩)).1
theorem MpR.at {L : List (Int × Value)} {E : List Ent} (h : MpR L E) {j : Nat} {k : Int} {v : ByteArray} (hj : E[j]? = some (k, v)) : getV k E = v := (getE_some ((getE_mem h.so).1 (List.mem_of_getElem? hj))).1
theorem MpR.rise {L : List (Int × Value)} {E : List Ent} (h : MpR L E) {i j : Nat} {x y : Ent} (hi : E[i]? = some x) (hj : E[j]? = some y) (hij : i < j) : x.1 < y.1 := by
 obtain ⟨h1, rfl⟩ := List.getElem?_eq_some_iff.1 hi;obtain ⟨h2, rfl⟩ := List.getElem?_eq_some_iff.1 hj;exact List.pairwise_iff_getElem.1 h.so i j h1 h2 hij
structure MpW (w1 w : World) (b d x' s r' m : Nat) (E : List Ent) (root : Int) (L : List (Int × Value)) : Prop where
 tr : TrR w1 [m, b] w d s 400 root E
 cb : w.heap[b]? = some (.cells #[.pointer (some ⟨d, 0, none⟩), .pointer (some ⟨x', 0, none⟩), .pointer (some ⟨s, 0, none⟩), .pointer (some ⟨r', 0, none⟩), .int .i64 root] 39)
 mp : MapW w m L
 lb : w1.heap.size ≤ b
 lm : w1.heap.size ≤ m
 ne : b ≠ m
theorem MpW.below {w1 w w' : World} {b d x' s r' m : Nat} {E : List Ent} {root : Int} {L : List (Int × Value)} (h : MpW w1 w b d x' s r' m E root L) (hb : Below w.heap.size w w') : MpW w1 w' b d x' s r' m E root L :=
 ⟨h.tr.below hb, (hb.block b (h.tr.lt b (by simp))).trans h.cb, h.mp.below hb, h.lb, h.lm, h.ne⟩
theorem MpW.put {w1 w w6 w7 : World} {b d x' s r' m : Nat} {E E' : List Ent} {root q : Int} {L : List (Int × Value)} (h : MpW w1 w b d x' s r' m E root L) (hT : TrR w1 [m, b] w6 d s 400 q E') (hK : KeptL [m, b] w w6) (h7 : w6.setCell ⟨b, 4, none⟩ (.int .i64 q) = w7) : MpW w1 w7 b d x' s r' m E' q L := by
 have f : Frm (fun k => k = b) w6 w7 := by rw [← h7]; exact set_frm _
 refine ⟨hT.turn (by simp) h.lb f, ?_, h.mp.kept ((f.block m (hT.lt m (by simp)) (Ne.symm h.ne)).trans (hK m (by simp))), h.lb, h.lm, h.ne⟩;rw [← h7, heap_setCell_same _ _ 4 _ _ _ ((hK b (by simp)).trans h.cb)]
 rfl
theorem MpW.mapped {w1 w wc : World} {b d x' s r' m : Nat} {E : List Ent} {root : Int} {L L' : List (Int × Value)} (h : MpW w1 w b d x' s r' m E root L) (hm : MapW wc m L') (f : Frm (fun k => k = m) w wc) : MpW w1 wc b d x' s r' m E root L' :=
 ⟨h.tr.turn (by simp) h.lm f, (f.block b (h.tr.lt b (by simp)) h.ne).trans h.cb, hm, h.lb, h.lm, h.ne⟩
theorem zero_strM (w : World) : (zeroValue 9).run Tryz.prog w = .ok (.string ByteArray.empty) w := by kernel_rfl
theorem half_in {z : Int} (h1 : -9223372036854775808 ≤ z) (h2 : z ≤ 9223372036854775807) : -9223372036854775808 ≤ z.tdiv 2 ∧ z.tdiv 2 ≤ 9223372036854775807 := by
 have h : (z.tdiv 2).natAbs = z.natAbs / 2 := by rw [Int.natAbs_tdiv]; rfl
 omega
theorem treeMap_law (a : Option Addr) (len cap : Nat) (zs : List Int) (a1 : Int) (w : World) (hk : IsInts .i64 w a len cap zs) (v1 : (Lit.int .i64 a1).wf = true) :
  Calls Tryz.prog 3 #[.slice a len cap, .int .i64 a1] w fun e w' => e = .returned (.bool true) ∧ Below w.heap.size w w' := by
 have BG := Hd (fun w => begins_is w 400 (by decide) (by decide));have KV := Hd (bounds_i64 v1);have CELLS := Hd (int_cellA hk);have hlenL := ints_len hk;clear v1 hk;go_enter Tryz.func3, Tryz.ntmps3;try simp only [List.append_eq, List.cons_append, List.nil_append]
 go_wp2_with fail;refine (examples_yes11 _).mono ?_;rintro e w1 ⟨rfl, b1⟩;have B1 := Hd b1;clear b1;go_wp2_with fail;refine (BG.out _).mono ?_;rintro e w2 ⟨b, d, x', s, r', rfl, hcb, hlo, htr⟩;have hmm : (Instr.makeMap 27 none).run Tryz.prog w2 = .ok (.map (some w2.heap.size)) (w2.alloc (.map #[] 0)) := by simp [Instr.makeMap]
 obtain ⟨m, hm⟩ : ∃ m, w2.heap.size = m := ⟨_, rfl⟩
 obtain ⟨w3, hw3⟩ : ∃ w3, w2.alloc (.map #[] 0) = w3 := ⟨_, rfl⟩
 have HI0 : Hid (MpW w1 w3 b d x' s r' m [] 0 []) := by
  have hb3 : Below w2.heap.size w2 w3 := by rw [← hw3]; exact below_made _ _
  have hsz := htr.size.size;have hbl := htr.lt b (by simp);exact Hd ⟨(htr.more hb3 m (by omega) (by rw [← hw3, ← hm]; simp)), (hb3.block _ hbl).trans hcb, ⟨#[], 0, by rw [← hw3, ← hm]; exact heap_alloc_new _ _, rfl⟩, hlo, by omega, by omega⟩
 rw [hw3, hm] at hmm;clear hcb hlo htr BG hw3 hm
 go_upto_block 0 with fail
 go_cut [9] (fun _ wc => ∃ (E : List Ent) (root : Int) (L : List (Int × Value)), Hid (E.length ≤ 120) ∧ Hid (MpR L E) ∧ Hid (MpW w1 wc b d x' s r' m E root L))
 case first =>
  go_wp2_with fail
  go_loopw [9, 10, 11, 12, 13, 14, 15, 16, 17] (fun i _ _ _ _ _ _ _ _ wr => ∃ (j : Nat) (E : List Ent) (root : Int) (L : List (Int × Value)), j ≤ len ∧ j ≤ 120 ∧ i = .int .i64 (j : Int) ∧ Hid (E.length ≤ j) ∧ Hid (MpR L E) ∧ Hid (MpW w1 wr b d x' s r' m E root L)) (fun i _ _ _ _ _ _ _ _ _ => 121 - (intOf i).toNat)
  case atStart => exact ⟨0, [], 0, [], Nat.zero_le _, Nat.zero_le _, rfl, Hd (Nat.le_refl _), Hd MpR.start, HI0⟩
  case round =>
   obtain ⟨j, E, root, L, hj1, hj2, rfl, HLN, HR, HI⟩ := hrel
   by_cases hjl : j < len
   ·have hjli : (j : Int) < (len : Int) := by omega
    by_cases hlt : j < 120
    ·have hli : (j : Int) < 120 := by omega
     obtain ⟨x, z, hax, _, ⟨hz1, hz2⟩, CELL⟩ := CELLS.out j hjl;subst hax;have HZ := Hd (And.intro hz1 hz2);have hhz := half_in hz1 hz2;have ezh : IntKind.i64.wrap (z.tdiv 2) = z.tdiv 2 := IntWalk.i64_in _ (by omega);obtain ⟨zh, hzh⟩ : ∃ zh, z.tdiv 2 = zh := ⟨_, rfl⟩
     obtain ⟨zr, hzr⟩ : ∃ zr, z.tmod 2 = zr := ⟨_, rfl⟩
     rw [hzh] at hhz ezh;have HZH := Hd hhz;have HJL : Hid (j + 1 ≤ len ∧ j + 1 ≤ 120) := Hd ⟨by omega, by omega⟩;have HE5 : Hid (E.length < 2 ^ (6 + 1)) := Hd (by have := HLN.out; omega);have HN5 : Hid (2 * E.length + 2 * 6 + 5 ≤ 400) := Hd (by have := HLN.out; omega);have e4 : IntKind.i64.wrap ((j : Int) + 1) = ((j + 1 : Nat) : Int) := by rw [show (j : Int) + 1 = ((j + 1 : Nat) : Int) by omega]; exact IntWalk.i64_in _ (by omega)
     have ca := CELL.out wr (chain B1.out HI.out.tr.size);clear hj1 hj2 hjl hlt hz1 hz2 hhz;go_wp2_with fail;refine (key_is _ zh HZH.out.1 HZH.out.2).mono ?_;rintro e w5 ⟨rfl, b5⟩;have HI5 := Hd (HI.out.below b5);clear b5 HI ca;have hlk := lookupW (P := Tryz.prog) Tryz.underlying27 Tryz.underlying28 HI5.out.mp (lawK zh) (.string ByteArray.empty) (zero_strM w5) true;rw [(HR.out.look _).1, (HR.out.look _).2, if_pos rfl] at hlk
     have DL : Hid (∀ wq, TrR w1 [m, b] wq d s 400 root E → Calls Tryz.prog 18 #[.pointer (some ⟨s, 0, none⟩), .int .i64 root, .int .u64 (lawK zh)] wq fun e w' => ∃ q, e = .returned (.tuple #[.int .i64 q, .bool (getB (lawK zh) E), .int .i64 0]) ∧ TrR w1 [m, b] w' d s 400 q (delE (lawK zh) E) ∧ KeptL [m, b] wq w') := Hd (fun wq h => del_R h 6 (by decide) HE5.out HN5.out _ (lawK_ok zh));obtain ⟨gb, hgb⟩ : ∃ gb, getB (lawK zh) E = gb := ⟨_, rfl⟩
     obtain ⟨gv, hgv⟩ : ∃ gv, getV (lawK zh) E = gv := ⟨_, rfl⟩
     rw [hgb, hgv] at hlk;rw [hgb] at DL;have hgne : (gb != gb) = false := by simp
     have ca5 := CELL.out w5 (chain B1.out HI5.out.tr.size);have TT := Hd (And.intro (HI5.out.tr.below Br.drew) (show KeptL [m, b] w5 w5.drew from fun _ _ => rfl));clear hgb hgv
     by_cases hz0 : zr = 0
     ·have hzb : (zr == 0) = true := by rw [hz0]; rfl
      clear hz0 DL hgne;go_upto_region 14 with fail
      refine wp_region_held_drew (S := fun w' => Below w1.heap.size w1 w' ∧ w'.heap[b]? = some (.cells #[.pointer (some ⟨d, 0, none⟩), .pointer (some ⟨x', 0, none⟩), .pointer (some ⟨s, 0, none⟩), .pointer (some ⟨r', 0, none⟩), .int .i64 root] 39)) (by kernel_rfl) ⟨TT.out.1.size, HI5.out.cb⟩ (fun hS => ?_);refine Hu 0 67 hS ?_;simp only [SL];refine Hu 1 68 hS ?_;simp only [SL];refine Hu 2 69 hS ?_;simp only [SL];refine Hv 3 70 ?va3x4 hS ?ha3x4 ?_
      case ha3x4 =>
       intro w9 s9;obtain ⟨q0, q1, q2, q3, q4, _⟩ := cells5 s9.2;clear s9;go_simp;try (with_reducible rfl)
      simp only [SL];refine Hu 4 71 hS ?_;simp only [SL];refine Hu 5 72 hS ?_;simp only [SL];refine Hu 6 73 hS ?_;simp only [SL];refine Hv 7 74 ?va7x8 hS ?ha7x8 ?_
      case ha7x8 =>
       intro w9 s9;obtain ⟨q0, q1, q2, q3, q4, _⟩ := cells5 s9.2;clear s9;go_simp;try (with_reducible rfl)
      simp only [SL];refine Hu 8 75 hS ?_;simp only [SL];refine Hu 9 76 hS ?_;simp only [SL];refine Hu 10 77 hS ?_;simp only [SL];refine Hu 11 78 hS ?_;simp only [SL];refine Hv 12 79 ?va12x13 hS ?ha12x13 ?_
      case ha12x13 =>
       intro w9 s9;have ca := CELL.out w9 (chain B1.out s9.1);clear s9;go_simp;try (with_reducible rfl)
      simp only [SL];refine Hs 13 (fun K HK => ?_);go_simp;go_wp2_with fail;refine (value_is _ z HZ.out.1 HZ.out.2).mono ?_;rintro e w6 ⟨rfl, b6⟩;refine HK.out _ _ ?_ ?_
      ·exact ⟨chain hS.1 b6, (b6.block _ (Array.getElem?_eq_some_iff.1 hS.2).1).trans hS.2⟩
      clear HK K;try simp only [Act.put, SL]
      have hS' := And.intro (chain hS.1 b6) ((b6.block _ (Array.getElem?_eq_some_iff.1 hS.2).1).trans hS.2);clear hS;have hS := hS';clear hS';have TTn := Hd (And.intro (TT.out.1.below b6) (TT.out.2.trans (TT.out.1.kept b6)));clear TT b6;have TT := TTn;clear TTn;refine Hs 14 (fun K HK => ?_);go_simp;go_wp2_with fail;refine (put_R TT.out.1 6 (by decide) HE5.out HN5.out _ (lawK_ok zh) _ (lawV_size z)).mono ?_;rintro e w6 ⟨q, rfl, hT, hK⟩;refine HK.out _ _ ?_ ?_
      ·exact ⟨hT.size, (hK b (by simp)).trans hS.2⟩
      clear HK K;try simp only [Act.put, SL]
      have hS' := And.intro hT.size ((hK b (by simp)).trans hS.2);clear hS;have hS := hS';clear hS';have TTn := Hd (And.intro hT (TT.out.2.trans hK));clear TT hT hK;have TT := TTn;clear TTn;refine Hu 15 66 hS ?_;simp only [SL];refine Hu 16 82 hS ?_;simp only [SL];refine Hu 17 83 hS ?_;simp only [SL];refine Hu 18 13 hS ?_;simp only [SL];refine Hu 19 14 hS ?_;simp only [SL];refine wpAnyH_done (by kernel_rfl) ?_ _;obtain ⟨_, _, _, _, p4, pf⟩ := cells5 hS.2;have pf4 := pf 4;clear pf;obtain ⟨w7, hw7⟩ : ∃ w7, w6.setCell ⟨b, 4, none⟩ (.int .i64 q) = w7 := ⟨_, rfl⟩
      have OW7 := Hd (HI5.out.put TT.out.1 TT.out.2 hw7);clear TT hS HI5;go_upto_region 18 with fail
      try rw [hw7]
      clear hw7 pf4 p4;have ca7 := CELL.out w7 (chain B1.out OW7.out.tr.size);go_wp2_with fail;refine (value_is _ z HZ.out.1 HZ.out.2).mono ?_;rintro e wb ⟨rfl, bb⟩;have OWb := Hd (OW7.out.below bb);clear bb OW7 ca7;obtain ⟨wc, hmu, hmp, _, _, hmf⟩ := updateWB (P := Tryz.prog) Tryz.underlying27 Tryz.underlying28 OWb.out.mp (lawK zh) (.string (lawV z));have FIN := Hd (OWb.out.mapped hmp hmf);have LEN : Hid ((insE (lawK zh) (lawV z) E).length ≤ j + 1) := Hd (by have := HLN.out; have := insE_len (lawK zh) (lawV z) E; omega);clear hmp hmf OWb;go_wp2_with fail;go_roundw
      case rel => exact ⟨j + 1, _, _, _, HJL.out.1, HJL.out.2, rfl, LEN, Hd (HR.out.put (lawK_ok zh) _), FIN⟩
      case measure => have := HJL.out; simp [intOf]; omega
     ·have hzb : (zr == 0) = false := beq_eq_false_iff_ne.2 hz0
      clear hz0;go_upto_region 19 with fail
      refine wp_region_held_drew (S := fun w' => Below w1.heap.size w1 w' ∧ w'.heap[b]? = some (.cells #[.pointer (some ⟨d, 0, none⟩), .pointer (some ⟨x', 0, none⟩), .pointer (some ⟨s, 0, none⟩), .pointer (some ⟨r', 0, none⟩), .int .i64 root] 39)) (by kernel_rfl) ⟨TT.out.1.size, HI5.out.cb⟩ (fun hS => ?_);refine Hu 0 98 hS ?_;simp only [SL];refine Hu 1 99 hS ?_;simp only [SL];refine Hu 2 100 hS ?_;simp only [SL];refine Hv 3 101 ?vd3x4 hS ?hd3x4 ?_
      case hd3x4 =>
       intro w9 s9;obtain ⟨q0, q1, q2, q3, q4, _⟩ := cells5 s9.2;clear s9;go_simp;try (with_reducible rfl)
      simp only [SL];refine Hu 4 102 hS ?_;simp only [SL];refine Hu 5 103 hS ?_;simp only [SL];refine Hu 6 104 hS ?_;simp only [SL];refine Hv 7 105 ?vd7x8 hS ?hd7x8 ?_
      case hd7x8 =>
       intro w9 s9;obtain ⟨q0, q1, q2, q3, q4, _⟩ := cells5 s9.2;clear s9;go_simp;try (with_reducible rfl)
      simp only [SL];refine Hu 8 106 hS ?_;simp only [SL];refine Hs 9 (fun K HK => ?_);go_simp;go_wp2_with fail;refine (DL.out _ TT.out.1).mono ?_;rintro e w6 ⟨q, rfl, hT, hK⟩;refine HK.out _ _ ?_ ?_
      ·exact ⟨hT.size, (hK b (by simp)).trans hS.2⟩
      clear HK K;try simp only [Act.put, SL]
      have hS' := And.intro hT.size ((hK b (by simp)).trans hS.2);clear hS;have hS := hS';clear hS';have TTn := Hd (And.intro hT (TT.out.2.trans hK));clear TT hT hK;have TT := TTn;clear TTn;refine Hu 10 97 hS ?_;simp only [SL];refine Hu 11 108 hS ?_;simp only [SL];refine Hu 12 109 hS ?_;simp only [SL];refine Hu 13 110 hS ?_;simp only [SL];refine Hu 14 15 hS ?_;simp only [SL];refine Hu 15 16 hS ?_;simp only [SL];refine Hu 16 17 hS ?_;simp only [SL];refine wpAnyH_done (by kernel_rfl) ?_ _;obtain ⟨_, _, _, _, p4, pf⟩ := cells5 hS.2;have pf4 := pf 4;clear pf
      obtain ⟨w7, hw7⟩ : ∃ w7, w6.setCell ⟨b, 4, none⟩ (.int .i64 q) = w7 := ⟨_, rfl⟩
      have OW7 := Hd (HI5.out.put TT.out.1 TT.out.2 hw7);clear TT hS HI5;go_upto_region 23 with fail
      try rw [hw7]
      clear hw7 pf4 p4;obtain ⟨wc, hmu, hmp, _, _, hmf⟩ := deleteWB (P := Tryz.prog) Tryz.underlying27 Tryz.underlying28 OW7.out.mp (lawK zh) 0;have FIN := Hd (OW7.out.mapped hmp hmf);have LEN : Hid ((delE (lawK zh) E).length ≤ j + 1) := Hd (by have := HLN.out; have := delE_len (lawK zh) E; omega);clear hmp hmf OW7;go_wp2_with fail;go_roundw
      case rel => exact ⟨j + 1, _, _, _, HJL.out.1, HJL.out.2, rfl, LEN, Hd (HR.out.del _), FIN⟩
      case measure => have := HJL.out; simp [intOf]; omega
    ·have hli : ¬ (j : Int) < 120 := by omega
     go_wp2_with fail
     go_meet
     exact ⟨E, root, L, Hd (by have := HLN.out; omega), HR, HI⟩
   ·have hjli : ¬ (j : Int) < (len : Int) := by omega
    go_wp2_with fail
    go_meet
    exact ⟨E, root, L, Hd (by have := HLN.out; omega), HR, HI⟩
 case rest =>
  obtain ⟨E, root, L, HLN, HR, HI⟩ := hcut;have HE6 : Hid (E.length ≤ 600) := Hd (by have := HLN.out; omega);have TT := Hd (And.intro (HI.out.tr.below Br.drew) (show KeptL [m, b] wc wc.drew from fun _ _ => rfl));have LN50 : Hid (E.length ≤ 120) := Hd (by have := HLN.out; omega);have MP0 := Hd HI.out.mp;clear hlenL CELLS;go_upto_region 24 with fail
  refine wp_region_held_drew (S := fun w' => Below w1.heap.size w1 w' ∧ w'.heap[b]? = some (.cells #[.pointer (some ⟨d, 0, none⟩), .pointer (some ⟨x', 0, none⟩), .pointer (some ⟨s, 0, none⟩), .pointer (some ⟨r', 0, none⟩), .int .i64 root] 39)) (by kernel_rfl) ⟨TT.out.1.size, HI.out.cb⟩ (fun hS => ?_);refine Hu 0 125 hS ?_;simp only [SL];refine Hu 1 126 hS ?_;simp only [SL];refine Hu 2 127 hS ?_;simp only [SL];refine Hv 3 128 ?vr3x4 hS ?hr3x4 ?_
  case hr3x4 =>
   intro w9 s9;obtain ⟨q0, q1, q2, q3, q4, _⟩ := cells5 s9.2;clear s9;go_simp;try (with_reducible rfl)
  simp only [SL];refine Hu 4 129 hS ?_;simp only [SL];refine Hu 5 130 hS ?_;simp only [SL];refine Hu 6 131 hS ?_;simp only [SL];refine Hv 7 132 ?vr7x8 hS ?hr7x8 ?_
  case hr7x8 =>
   intro w9 s9;obtain ⟨q0, q1, q2, q3, q4, _⟩ := cells5 s9.2;clear s9;go_simp;try (with_reducible rfl)
  simp only [SL];refine Hs 8 (fun K HK => ?_);go_simp;go_wp2_with fail;refine (scan_R TT.out.1 HE6.out _ _).mono ?_;rintro e w6 ⟨v, rfl, hrv, hT, hK, hnv⟩;refine HK.out _ _ ?_ ?_
  ·exact ⟨hT.size, (hK b (by simp)).trans hS.2⟩
  clear HK K;try simp only [Act.put, SL]
  have hS' := And.intro hT.size ((hK b (by simp)).trans hS.2);clear hS;have hS := hS';clear hS';have TTn := Hd (And.intro hT (TT.out.2.trans hK));clear TT hT hK;have TT := TTn;clear TTn;refine Hu 9 124 hS ?_;simp only [SL];refine Hu 10 134 hS ?_;simp only [SL];refine Hu 11 135 hS ?_;simp only [SL];refine Hu 12 18 hS ?_;simp only [SL];refine Hu 13 19 hS ?_;simp only [SL];refine wpAnyH_done (by kernel_rfl) ?_ _;have hA : (scanE 0 E).take (Int.toNat 1000) = E := by rw [HR.out.all]; exact List.take_of_length_le (Nat.le_trans LN50.out (by decide))
  rw [hA] at hrv;obtain ⟨va0, vc0, rfl⟩ := hrv.shape;have HRV := Hd hrv;obtain ⟨wA, hwA⟩ : ∃ wA, wA = w6 := ⟨_, rfl⟩
  subst hwA;obtain ⟨c, hc⟩ := TT.out.1.count;have CB9 := Hd hc.few;have MPS : Hid (MapW wA m L) := Hd (MP0.out.kept (TT.out.2 m (by simp)));have CBA := Hd hS.2;have TT2 := Hd (And.intro (hc.below Br.drew) (show KeptL ((Value.slice va0 E.length vc0).ownBlock.toList ++ [m, b]) wA wA.drew from fun _ _ => rfl));clear TT hc;have TT := TT2;clear TT2 hS hrv hA hnv;go_upto_region 25 with fail
  refine wp_region_held_drew (S := fun w' => Below w1.heap.size w1 w' ∧ w'.heap[b]? = some (.cells #[.pointer (some ⟨d, 0, none⟩), .pointer (some ⟨x', 0, none⟩), .pointer (some ⟨s, 0, none⟩), .pointer (some ⟨r', 0, none⟩), .int .i64 root] 39)) (by kernel_rfl) ⟨TT.out.1.tr.size, CBA.out⟩ (fun hS => ?_);refine Hu 0 137 hS ?_;simp only [SL];refine Hu 1 138 hS ?_;simp only [SL];refine Hu 2 139 hS ?_;simp only [SL];refine Hv 3 140 ?vrp3x4 hS ?hrp3x4 ?_
  case hrp3x4 =>
   intro w9 s9;obtain ⟨q0, q1, q2, q3, q4, _⟩ := cells5 s9.2;clear s9;go_simp;try (with_reducible rfl)
  simp only [SL];refine Hu 4 141 hS ?_;simp only [SL];refine Hu 5 142 hS ?_;simp only [SL];refine Hu 6 143 hS ?_;simp only [SL];refine Hv 7 144 ?vrp7x8 hS ?hrp7x8 ?_
  case hrp7x8 =>
   intro w9 s9;obtain ⟨q0, q1, q2, q3, q4, _⟩ := cells5 s9.2;clear s9;go_simp;try (with_reducible rfl)
  simp only [SL];refine Hs 8 (fun K HK => ?_);go_simp;go_wp2_with fail;refine (pages_C TT.out.1 HE6.out).mono ?_;rintro e w6 ⟨pa, pc, rfl, hT, hK⟩;refine HK.out _ _ ?_ ?_
  ·exact ⟨hT.tr.size, (hK b (by simp)).trans hS.2⟩
  clear HK K;try simp only [Act.put, SL]
  have hS' := And.intro hT.tr.size ((hK b (by simp)).trans hS.2);clear hS;have hS := hS';clear hS';have TTn := Hd (And.intro hT (TT.out.2.trans hK));clear TT hT hK;have TT := TTn;clear TTn;refine Hu 9 136 hS ?_;simp only [SL];refine Hu 10 146 hS ?_;simp only [SL];refine Hu 11 147 hS ?_;simp only [SL];refine Hu 12 20 hS ?_;simp only [SL];refine Hu 13 21 hS ?_;simp only [SL];refine wpAnyH_done (by kernel_rfl) ?_ _;obtain ⟨wL, hwL⟩ : ∃ wL, wL = w6 := ⟨_, rfl⟩
  subst hwL;have hK0 := TT.out.2;have MPA : Hid (MapW wL m L) := Hd ((MPS.out).kept (hK0 m (by simp)));have ROW0 := Hd (HRV.out.kept fun k hk => hK0 k (by simp [hk]));have hln := lenW (P := Tryz.prog) Tryz.underlying27 MPA.out 3;rw [HR.out.len] at hln;have LF := left_C TT.out.1;rw [show ((400 : Nat) : Int) - 2 - (c : Int) = 398 - (c : Int) by omega] at LF;have LFH := Hd LF;have hc9 : (c : Int) ≤ 700 := by have := CB9.out; omega
  have e398 : IntKind.i64.wrap (398 - (c : Int)) = 398 - (c : Int) := IntWalk.i64_in _ (by omega);have hcn : ((398 - (c : Int)) != (398 - (c : Int))) = false := by simp
  have hen : ((E.length : Int) != (E.length : Int)) = false := by simp
  have TQ0 := Hd (TT.out.1.tr.sub (R' := [m, b]) (fun k hk => by simp only [List.mem_append]; exact .inr hk));have HS0 := Hd hS;obtain ⟨q0, q1, q2, q3, q4, _⟩ := cells5 hS.2;clear TT hS hK0 HRV LF MPS hc9;go_wp2_with fail;refine LFH.out.mono ?_;rintro e w8 ⟨rfl, b8⟩;have MPL := Hd (MPA.out.below b8);have ROWA := Hd (ROW0.out.below b8);have TQ := Hd (TQ0.out.below b8)
  have CBL : Hid (w8.heap[b]? = some (.cells #[.pointer (some ⟨d, 0, none⟩), .pointer (some ⟨x', 0, none⟩), .pointer (some ⟨s, 0, none⟩), .pointer (some ⟨r', 0, none⟩), .int .i64 root] 39)) := Hd ((b8.block _ (Array.getElem?_eq_some_iff.1 HS0.out.2).1).trans HS0.out.2);clear b8 MPA ROW0 TQ0 HS0 LFH hln q0 q1 q2 q3 q4;obtain ⟨wL, hwL⟩ : ∃ wL, wL = w8 := ⟨_, rfl⟩
  subst hwL;go_wp2_with fail
  go_loopw [22] (fun i wr => ∃ j : Nat, i = .int .i64 (j : Int) ∧ j ≤ E.length ∧ Hid (Below wL.heap.size wL wr)) (fun i _ => E.length - (intOf i).toNat)
  case atStart => exact ⟨0, rfl, Nat.zero_le _, Hd Br⟩
  case round =>
   obtain ⟨j, rfl, hj, HBr⟩ := hrel
   by_cases hlt : j < E.length
   ·have hli : (j : Int) < (E.length : Int) := by omega
    obtain ⟨⟨ek, ev⟩, he⟩ : ∃ e, E[j]? = some e := ⟨_, List.getElem?_eq_getElem hlt⟩
    obtain ⟨g1, hg1, hg2, k1, k2⟩ := (ROWA.out.below HBr.out).at he;subst hg1
    have LK : Hid (∀ w', Below wr.heap.size wr w' → (Instr.lookup 27 (.map (some m)) (.int .u64 ek) false).run Tryz.prog w' = .ok (.string ev) w') := Hd (fun w' hb => by
     have hlk := lookupW (P := Tryz.prog) Tryz.underlying27 Tryz.underlying28 ((MPL.out.below HBr.out).below hb) ek (.string ByteArray.empty) (zero_strM w') false;rw [(HR.out.look _).1, HR.out.at he, if_neg (by decide)] at hlk;exact hlk)
    have GLT := Hd hg2;have K1 := Hd k1;have K2 := Hd k2;have HE := Hd he;have HJ : Hid (j + 1 ≤ E.length ∧ E.length ≤ 120) := Hd ⟨by omega, LN50.out⟩;have e4 : IntKind.i64.wrap ((j : Int) + 1) = ((j + 1 : Nat) : Int) := by have := HJ.out; rw [show (j : Int) + 1 = ((j + 1 : Nat) : Int) by omega]; exact IntWalk.i64_in _ (by omega)
    clear he hg2 k1 k2;obtain ⟨p, hp⟩ : ∃ p, j - 1 = p := ⟨_, rfl⟩
    by_cases hjp : 0 < j
    ·have hj0 : (j : Int) > 0 := by omega
     have hj0' : (0 : Int) < (j : Int) := by omega
     have ej : IntKind.i64.wrap ((j : Int) - 1) = (p : Int) := by have := HJ.out; rw [show (j : Int) - 1 = (p : Int) by omega]; exact IntWalk.i64_in _ (by omega)
     have hpl : (p : Int) < (E.length : Int) := by omega
     obtain ⟨⟨pk, pv⟩, hep⟩ : ∃ e, E[p]? = some e := ⟨_, List.getElem?_eq_getElem (by omega)⟩
     obtain ⟨g2, hg2, _, l1, l2⟩ := (ROWA.out.below HBr.out).at hep;have hg3 : g1 = g2 := by injection hg2 with hg2; injection hg2
     subst hg3;clear hg2;have hri : pk < ek := HR.out.rise hep HE.out (by omega);have hge : decide (ek ≤ pk) = false := decide_eq_false (by omega);have hge2 : ¬ ek ≤ pk := by omega
     have L1 := Hd l1;clear hep hri hp hlt hj l1 l2;go_upto_region 31 with fail
     refine wp_region_held_drew (S := fun w' => Below wr.heap.size wr w') (by kernel_rfl) Br.drew (fun hS => ?_);refine Hu 0 178 hS ?_;simp only [SL];refine Hu 1 179 hS ?_;simp only [SL];refine Hu 2 180 hS ?_;simp only [SL];refine Hu 3 181 hS ?_;simp only [SL];refine Hu 4 182 hS ?_;simp only [SL];refine Hu 5 183 hS ?_;simp only [SL];refine Hu 6 184 hS ?_;simp only [SL];refine Hu 7 185 hS ?_;simp only [SL];refine Hv 8 186 ?vm1q8x9 hS ?hm1q8x9 ?_
     case hm1q8x9 =>
      intro w9 s9;have k9 := (cell_as (i := p * 2) (s9.block g1 GLT.out)).trans L1.out;clear s9;go_simp;try (with_reducible rfl)
     simp only [SL];refine Hu 9 187 hS ?_;simp only [SL];refine Hu 10 188 hS ?_;simp only [SL];refine Hu 11 189 hS ?_;simp only [SL];refine Hu 12 190 hS ?_;simp only [SL];refine Hv 13 191 ?vm1q13x14 hS ?hm1q13x14 ?_
     case hm1q13x14 =>
      intro w9 s9;have k9 := (cell_as (i := j * 2) (s9.block g1 GLT.out)).trans K1.out;clear s9;go_simp;try (with_reducible rfl)
     simp only [SL];refine Hu 14 192 hS ?_;simp only [SL];refine Hu 15 193 hS ?_;simp only [SL];refine Hu 16 194 hS ?_;simp only [SL];refine Hu 17 195 hS ?_;simp only [SL];refine Hu 18 196 hS ?_;simp only [SL];refine Hu 19 197 hS ?_;simp only [SL];refine Hu 20 198 hS ?_;simp only [SL];refine Hu 21 199 hS ?_;simp only [SL];refine Hv 22 200 ?vm1q22x23 hS ?hm1q22x23 ?_
     case hm1q22x23 =>
      intro w9 s9;have k9 := (cell_as (i := j * 2) (s9.block g1 GLT.out)).trans K1.out;clear s9;go_simp;try (with_reducible rfl)
     simp only [SL];refine Hv 23 201 ?vm1q23x24 hS ?hm1q23x24 ?_
     case hm1q23x24 =>
      intro w9 s9;have hlk9 := LK.out w9 s9;clear s9;go_simp;try (with_reducible rfl)
     simp only [SL];refine Hu 24 202 hS ?_;simp only [SL];refine Hu 25 203 hS ?_;simp only [SL];refine Hu 26 204 hS ?_;simp only [SL];refine Hu 27 205 hS ?_;simp only [SL];refine Hv 28 206 ?vm1q28x29 hS ?hm1q28x29 ?_
     case hm1q28x29 =>
      intro w9 s9;have k9 := (cell_as (i := j * 2 + 1) (s9.block g1 GLT.out)).trans K2.out;clear s9;go_simp;try (with_reducible rfl)
     simp only [SL];refine Hu 29 207 hS ?_;simp only [SL];refine Hu 30 208 hS ?_;simp only [SL];refine wpAnyH_done (by kernel_rfl) ?_ _;have HQ := Hd (chain HBr.out hS);clear hS;go_wp2_with fail;go_roundw
     case rel => exact ⟨j + 1, rfl, HJ.out.1, HQ⟩
     case measure => have := HJ.out; simp [intOf]; omega
    ·have hj0 : ¬ (j : Int) > 0 := by omega
     have hj0' : ¬ (0 : Int) < (j : Int) := by omega
     clear hp hlt hj;go_upto_region 31 with fail
     refine wp_region_held_drew (S := fun w' => Below wr.heap.size wr w') (by kernel_rfl) Br.drew (fun hS => ?_);refine Hu 0 178 hS ?_;simp only [SL];refine Hu 1 179 hS ?_;simp only [SL];refine Hu 2 180 hS ?_;simp only [SL];refine Hn 3 181 hS ?_;simp only [SL];refine Hn 4 182 hS ?_;simp only [SL];refine Hn 5 183 hS ?_;simp only [SL];refine Hn 6 184 hS ?_;simp only [SL];refine Hn 7 185 hS ?_;simp only [SL];refine Hn 8 186 hS ?_;simp only [SL];refine Hn 9 187 hS ?_;simp only [SL];refine Hn 10 188 hS ?_;simp only [SL];refine Hn 11 189 hS ?_;simp only [SL];refine Hn 12 190 hS ?_;simp only [SL]
     refine Hn 13 191 hS ?_;simp only [SL];refine Hn 14 192 hS ?_;simp only [SL];refine Hu 15 193 hS ?_;simp only [SL];refine Hu 16 194 hS ?_;simp only [SL];refine Hu 17 195 hS ?_;simp only [SL];refine Hu 18 196 hS ?_;simp only [SL];refine Hu 19 197 hS ?_;simp only [SL];refine Hu 20 198 hS ?_;simp only [SL];refine Hu 21 199 hS ?_;simp only [SL];refine Hv 22 200 ?vm2q22x23 hS ?hm2q22x23 ?_
     case hm2q22x23 =>
      intro w9 s9;have k9 := (cell_as (i := j * 2) (s9.block g1 GLT.out)).trans K1.out;clear s9;go_simp;try (with_reducible rfl)
     simp only [SL];refine Hv 23 201 ?vm2q23x24 hS ?hm2q23x24 ?_
     case hm2q23x24 =>
      intro w9 s9;have hlk9 := LK.out w9 s9;clear s9;go_simp;try (with_reducible rfl)
     simp only [SL];refine Hu 24 202 hS ?_;simp only [SL];refine Hu 25 203 hS ?_;simp only [SL];refine Hu 26 204 hS ?_;simp only [SL];refine Hu 27 205 hS ?_;simp only [SL];refine Hv 28 206 ?vm2q28x29 hS ?hm2q28x29 ?_
     case hm2q28x29 =>
      intro w9 s9;have k9 := (cell_as (i := j * 2 + 1) (s9.block g1 GLT.out)).trans K2.out;clear s9;go_simp;try (with_reducible rfl)
     simp only [SL];refine Hu 29 207 hS ?_;simp only [SL];refine Hu 30 208 hS ?_;simp only [SL];refine wpAnyH_done (by kernel_rfl) ?_ _;have HQ := Hd (chain HBr.out hS);clear hS;go_wp2_with fail;go_roundw
     case rel => exact ⟨j + 1, rfl, HJ.out.1, HQ⟩
     case measure => have := HJ.out; simp [intOf]; omega
   ·have hli : ¬ (j : Int) < (E.length : Int) := by omega
    clear hlt hj;have TT := Hd (And.intro ((TQ.out.below HBr.out).below Br.drew) (show KeptL [m, b] wr wr.drew from fun _ _ => rfl));have CBr : Hid (wr.heap[b]? = some (.cells #[.pointer (some ⟨d, 0, none⟩), .pointer (some ⟨x', 0, none⟩), .pointer (some ⟨s, 0, none⟩), .pointer (some ⟨r', 0, none⟩), .int .i64 root] 39)) := Hd ((HBr.out.block b (TQ.out.lt b (by simp))).trans CBL.out);go_upto_region 33 with fail
    refine wp_region_held_drew (S := fun w' => Below w1.heap.size w1 w' ∧ w'.heap[b]? = some (.cells #[.pointer (some ⟨d, 0, none⟩), .pointer (some ⟨x', 0, none⟩), .pointer (some ⟨s, 0, none⟩), .pointer (some ⟨r', 0, none⟩), .int .i64 root] 39)) (by kernel_rfl) ⟨TT.out.1.size, CBr.out⟩ (fun hS => ?_);refine Hu 0 210 hS ?_;simp only [SL];refine Hu 1 211 hS ?_;simp only [SL];refine Hu 2 212 hS ?_;simp only [SL];refine Hv 3 213 ?vrg3x4 hS ?hrg3x4 ?_
    case hrg3x4 =>
     intro w9 s9;obtain ⟨q0, q1, q2, q3, q4, _⟩ := cells5 s9.2;clear s9;go_simp;try (with_reducible rfl)
    simp only [SL];refine Hu 4 214 hS ?_;simp only [SL];refine Hu 5 215 hS ?_;simp only [SL];refine Hu 6 216 hS ?_;simp only [SL];refine Hv 7 217 ?vrg7x8 hS ?hrg7x8 ?_
    case hrg7x8 =>
     intro w9 s9;obtain ⟨q0, q1, q2, q3, q4, _⟩ := cells5 s9.2;clear s9;go_simp;try (with_reducible rfl)
    simp only [SL];refine Hu 8 218 hS ?_;simp only [SL];refine Hs 9 (fun K HK => ?_);go_simp;go_wp2_with fail;refine (key_is _ a1 KV.out.1 KV.out.2).mono ?_;rintro e w6 ⟨rfl, b6⟩;refine HK.out _ _ ?_ ?_
    ·exact ⟨chain hS.1 b6, (b6.block _ (Array.getElem?_eq_some_iff.1 hS.2).1).trans hS.2⟩
    clear HK K;try simp only [Act.put, SL]
    have hS' := And.intro (chain hS.1 b6) ((b6.block _ (Array.getElem?_eq_some_iff.1 hS.2).1).trans hS.2);clear hS;have hS := hS';clear hS';have TTn := Hd (And.intro (TT.out.1.below b6) (TT.out.2.trans (TT.out.1.kept b6)));clear TT b6;have TT := TTn;clear TTn;refine Hs 10 (fun K HK => ?_);go_simp;go_wp2_with fail;refine (get_R TT.out.1 HE6.out _ (lawK_ok a1)).mono ?_;rintro e w6 ⟨rfl, b6⟩;refine HK.out _ _ ?_ ?_
    ·exact ⟨chain hS.1 b6, (b6.block _ (Array.getElem?_eq_some_iff.1 hS.2).1).trans hS.2⟩
    clear HK K;try simp only [Act.put, SL]
    have hS' := And.intro (chain hS.1 b6) ((b6.block _ (Array.getElem?_eq_some_iff.1 hS.2).1).trans hS.2);clear hS;have hS := hS';clear hS';have TTn := Hd (And.intro (TT.out.1.below b6) (TT.out.2.trans (TT.out.1.kept b6)));clear TT b6;have TT := TTn;clear TTn;refine Hu 11 209 hS ?_;simp only [SL];refine Hu 12 221 hS ?_;simp only [SL];refine Hu 13 222 hS ?_;simp only [SL];refine Hu 14 223 hS ?_;simp only [SL];refine Hu 15 23 hS ?_;simp only [SL];refine Hu 16 24 hS ?_;simp only [SL];refine Hu 17 25 hS ?_;simp only [SL];refine wpAnyH_done (by kernel_rfl) ?_ _;have HS6 := Hd (chain B1.out hS.1)
    have hm6 : MapW w6 m L := (MPL.out.below HBr.out).kept (TT.out.2 m (by simp));clear hS;go_wp2_with fail;refine (key_is _ a1 KV.out.1 KV.out.2).mono ?_;rintro e w7 ⟨rfl, b7⟩;have hlk := lookupW (P := Tryz.prog) Tryz.underlying27 Tryz.underlying28 (hm6.below b7) (lawK a1) (.string ByteArray.empty) (zero_strM w7) true;rw [(HR.out.look _).1, (HR.out.look _).2, if_pos rfl] at hlk;have BF := Hd (chain HS6.out b7);generalize getB (lawK a1) E = gb at hlk ⊢;generalize getV (lawK a1) E = gv at hlk ⊢;clear b7 hm6 HS6 TT;go_wp2_with fail;go_ret;exact ⟨rfl, BF.out⟩
end Go.Proofs.YtmomlhiokggfbaaGreatDoor
