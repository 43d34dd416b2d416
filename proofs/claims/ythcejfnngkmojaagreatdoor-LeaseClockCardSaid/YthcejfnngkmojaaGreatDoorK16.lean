/-
 SpaceMath, Space, Ls, LeaseClockLaw.
-/
import Derived.Test.YthcejfnngkmojaaGreatDoorK01
import Derived.Test.YthcejfnngkmojaaGreatDoorK15
import Derived.Test.YthcejfnngkmojaaGreatDoorK02
import Derived.Test.YthcejfnngkmojaaGreatDoorK03
import Derived.Deep.DeepCutAuto
namespace Go.Proofs.YthcejfnngkmojaaGreatDoor
open Go.RowKit
set_option maxRecDepth 20000
set_option maxHeartbeats 12800000
set_option linter.unusedVariables false
set_option linter.unusedSimpArgs false
def keyOk (k a b : Int) : Bool := decide (0 ≤ k ∧ k ≤ 15) && decide (0 ≤ a ∧ a ≤ 268435455) && decide (0 ≤ b ∧ b ≤ 4294967295)
def keyN (k a b : Int) : Int := if keyOk k a b = true then k * 1152921504606846976 + a * 4294967296 + b else 0
theorem or_nat (i x y : Nat) (hx : x % 2 ^ i = 0) (hy : y < 2 ^ i) (h1 : x < 18446744073709551616) (h2 : y < 18446744073709551616) : bits BinOp.or IntKind.u64 (x : Int) (y : Int) = ((x + y : Nat) : Int) := by
 rw [u64_or_nat x y h1 h2, nat_join i x y hx hy]
theorem or_key (k a b : Int) (k0 : 0 ≤ k) (k1 : k ≤ 15) (a0 : 0 ≤ a) (a1 : a ≤ 268435455) (b0 : 0 ≤ b) (b1 : b ≤ 4294967295) :
  bits BinOp.or IntKind.u64 (bits BinOp.or IntKind.u64 (k * 1152921504606846976) (a * 4294967296)) b = k * 1152921504606846976 + a * 4294967296 + b := by
 obtain ⟨k, rfl⟩ := Int.eq_ofNat_of_zero_le k0;obtain ⟨a, rfl⟩ := Int.eq_ofNat_of_zero_le a0;obtain ⟨b, rfl⟩ := Int.eq_ofNat_of_zero_le b0;have e1 : ((k : Int) * 1152921504606846976) = ((k * 1152921504606846976 : Nat) : Int) := by omega
 have e2 : ((a : Int) * 4294967296) = ((a * 4294967296 : Nat) : Int) := by omega
 rw [e1, e2, or_nat 60 (k * 1152921504606846976) (a * 4294967296) (by simp) (by simp; omega) (by omega) (by omega),
  or_nat 32 (k * 1152921504606846976 + a * 4294967296) b (by simp; omega) (by simp; omega) (by omega) (by omega)]
 omega
theorem spWithin_is (n last : Int) (v : Bool) (w : World) (hv : (decide (0 ≤ n) && decide (n ≤ last)) = v) :
  Calls Tryz.prog 121 #[.int .i64 n, .int .i64 last] w fun e w' => e = .returned (.bool v) ∧ w = w' := by
 have H := Hd hv;clear hv
 by_cases h : n < 0
 ·go_enter Tryz.func121, Tryz.ntmps121
  go_wp2
  go_ret;refine ⟨?_, rfl⟩;rw [← H.out];exact ret_bool (by simp; omega)
 ·go_enter Tryz.func121, Tryz.ntmps121
  go_wp2
  go_ret;refine ⟨?_, rfl⟩;rw [← H.out];exact ret_bool (by simp; omega)
theorem key_ok (k a b : Int) (w : World) (k0 : 0 ≤ k) (k1 : k ≤ 15) (a0 : 0 ≤ a) (a1 : a ≤ 268435455) (b0 : 0 ≤ b) (b1 : b ≤ 4294967295) :
  Calls Tryz.prog 94 #[.int .i64 k, .int .i64 a, .int .i64 b] w fun e w' => e = .returned (.tuple #[.int .u64 (k * 1152921504606846976 + a * 4294967296 + b), .bool true]) ∧ w = w' := by
 have FIN := Hd (or_key k a b k0 k1 a0 a1 b0 b1);go_enter Tryz.func94, Tryz.ntmps94;go_wp2_with fail;refine (spWithin_is _ _ true _ (by simp; omega)).mono ?_;rintro e w1 ⟨rfl, rfl⟩;go_wp2_with fail;refine (spWithin_is _ _ true _ (by simp; omega)).mono ?_;rintro e w1 ⟨rfl, rfl⟩;go_wp2_with fail;refine (spWithin_is _ _ true _ (by simp; omega)).mono ?_;rintro e w1 ⟨rfl, rfl⟩;go_wp2_with fail;rw [FIN.out];go_ret2;exact ⟨rfl, rfl⟩
theorem key_k (k a b : Int) (w : World) (h : (decide (0 ≤ k) && decide (k ≤ 15)) = false) :
  Calls Tryz.prog 94 #[.int .i64 k, .int .i64 a, .int .i64 b] w fun e w' => e = .returned (.tuple #[.int .u64 0, .bool false]) ∧ w = w' := by
 have H := Hd h;clear h;go_enter Tryz.func94, Tryz.ntmps94;go_wp2_with fail;refine (spWithin_is _ _ false _ H.out).mono ?_;rintro e w1 ⟨rfl, rfl⟩;go_wp2_with fail;go_ret2;exact ⟨rfl, rfl⟩
theorem key_a (k a b : Int) (w : World) (k0 : 0 ≤ k) (k1 : k ≤ 15) (h : (decide (0 ≤ a) && decide (a ≤ 268435455)) = false) :
  Calls Tryz.prog 94 #[.int .i64 k, .int .i64 a, .int .i64 b] w fun e w' => e = .returned (.tuple #[.int .u64 0, .bool false]) ∧ w = w' := by
 have H := Hd h;clear h;go_enter Tryz.func94, Tryz.ntmps94;go_wp2_with fail;refine (spWithin_is _ _ true _ (by simp; omega)).mono ?_;rintro e w1 ⟨rfl, rfl⟩;go_wp2_with fail;refine (spWithin_is _ _ false _ H.out).mono ?_;rintro e w1 ⟨rfl, rfl⟩;go_wp2_with fail;go_ret2;exact ⟨rfl, rfl⟩
theorem key_b (k a b : Int) (w : World) (k0 : 0 ≤ k) (k1 : k ≤ 15) (a0 : 0 ≤ a) (a1 : a ≤ 268435455) (h : (decide (0 ≤ b) && decide (b ≤ 4294967295)) = false) :
  Calls Tryz.prog 94 #[.int .i64 k, .int .i64 a, .int .i64 b] w fun e w' => e = .returned (.tuple #[.int .u64 0, .bool false]) ∧ w = w' := by
 have H := Hd h;clear h;go_enter Tryz.func94, Tryz.ntmps94;go_wp2_with fail;refine (spWithin_is _ _ true _ (by simp; omega)).mono ?_;rintro e w1 ⟨rfl, rfl⟩;go_wp2_with fail;refine (spWithin_is _ _ true _ (by simp; omega)).mono ?_;rintro e w1 ⟨rfl, rfl⟩;go_wp2_with fail;refine (spWithin_is _ _ false _ H.out).mono ?_;rintro e w1 ⟨rfl, rfl⟩;go_wp2_with fail;go_ret2;exact ⟨rfl, rfl⟩
theorem key_any (k a b : Int) (w : World) :
  Calls Tryz.prog 94 #[.int .i64 k, .int .i64 a, .int .i64 b] w fun e w' => e = .returned (.tuple #[.int .u64 (keyN k a b), .bool (keyOk k a b)]) ∧ w = w' := by
 by_cases hk : 0 ≤ k ∧ k ≤ 15
 ·by_cases ha : 0 ≤ a ∧ a ≤ 268435455
  ·by_cases hb : 0 ≤ b ∧ b ≤ 4294967295
   ·have ho : keyOk k a b = true := by simp [keyOk, hk, ha, hb]
    simpa [keyN, ho] using key_ok k a b w hk.1 hk.2 ha.1 ha.2 hb.1 hb.2
   ·have ho : keyOk k a b = false := by simp only [keyOk, hb, decide_false, Bool.and_false]
    simpa [keyN, ho] using key_b k a b w hk.1 hk.2 ha.1 ha.2 (by rw [← Bool.decide_and]; simp only [hb, decide_false])
  ·have ho : keyOk k a b = false := by simp only [keyOk, ha, decide_false, Bool.and_false, Bool.false_and]
   simpa [keyN, ho] using key_a k a b w hk.1 hk.2 (by rw [← Bool.decide_and]; simp only [ha, decide_false])
 ·have ho : keyOk k a b = false := by simp only [keyOk, hk, decide_false, Bool.false_and]
  simpa [keyN, ho] using key_k k a b w (by rw [← Bool.decide_and]; simp only [hk, decide_false])
theorem clk_val1 {w0 w : World} {R : List Nat} {t d s n b c : Nat} {E E' : List Ent} {caps : Array Value} {x e : Int} (h : TxS w0 R w t d s n E) (hb : w.heap[b]? = some (.cells #[.func (.func 48) #[] caps] 88)) (hc : w.heap[c]? = some (.cells #[.int .i64 0] 3)) (hcR : c ∈ R) (hct : c ≠ t) (hc0 : w0.heap.size ≤ c)
  (HC : Calls Tryz.prog 48 caps w fun e' w' => e' = .returned (.tuple #[.int .i64 x, .int .i64 e]) ∧ TxS w0 R w' t d s n E' ∧ KeptT R t w w') :
  Calls Tryz.prog 89 #[.pointer (some ⟨b, 0, none⟩), .pointer (some ⟨c, 0, none⟩)] w fun e' w' => e' = .returned (.int .i64 e) ∧ TxS w0 R w' t d s n E' ∧ w'.heap[c]? = some (.cells #[.int .i64 x] 3) ∧ ∀ k ∈ R, k ≠ t → k ≠ c → w'.heap[k]? = w.heap[k]? := by
 have cb := (box1 hb).1;have H := Hd HC;have HX := Hd (And.intro hc (And.intro hcR (And.intro hct hc0)));clear h hb hc hcR hct hc0 HC;go_enter Tryz.func89, Tryz.ntmps89;go_wp2_with fail;refine H.out.mono ?_;rintro e' w1 ⟨rfl, h1, h2⟩;have hc1 := (h2 c HX.out.2.1 HX.out.2.2.1).trans HX.out.1;obtain ⟨c1, g1⟩ := box1 hc1
 have FIN : Hid (TxS w0 R (w1.setCell ⟨c, 0, none⟩ (.int .i64 x)) t d s n E' ∧ (w1.setCell ⟨c, 0, none⟩ (.int .i64 x)).heap[c]? = some (.cells #[.int .i64 x] 3) ∧ ∀ k ∈ R, k ≠ t → k ≠ c → (w1.setCell ⟨c, 0, none⟩ (.int .i64 x)).heap[k]? = w.heap[k]?) := Hd (by
  have f := set_frmT (w := w1) (b := c) (i := 0) (.int .i64 x);refine ⟨h1.turn HX.out.2.1 HX.out.2.2.1 HX.out.2.2.2 f, ?_, fun k hk hn hnc => (f.block k (h1.lt.1 k hk) hnc).trans (h2 k hk hn)⟩;rw [heap_setCell_same _ _ 0 _ _ _ hc1]; rfl)
 clear h1 h2 hc1 cb;go_wp2_with fail;go_ret;exact ⟨rfl, FIN.out⟩
theorem clk_errno {w0 w : World} {R : List Nat} {t d s n : Nat} {E E' : List Ent} {caps : Array Value} {e : Int} {Q : World → Prop} (h : TxS w0 R w t d s n E)
  (HC : Calls Tryz.prog 89 caps w fun e' w' => e' = .returned (.int .i64 e) ∧ TxS w0 R w' t d s n E' ∧ Q w') :
  Calls Tryz.prog 74 #[.pointer (some ⟨t, 0, none⟩), .func (.func 89) #[] caps] w fun e' w' => e' = .returned (.int .i64 e) ∧ TxS w0 R w' t d s n E' ∧ Q w' := by
 have ER := Hd (err_S h);have H := Hd HC;clear h HC;go_enter Tryz.func74, Tryz.ntmps74;go_wp2_with fail;refine ER.out.mono ?_;rintro e' w1 ⟨rfl, rfl⟩;clear ER;go_wp2_with fail;refine H.out.mono ?_;rintro e' w2 ⟨rfl, h1, h2⟩;have ER := Hd (err_S h1);have FIN := Hd (And.intro h1 h2);clear h1 h2 H;go_wp2_with fail;refine ER.out.mono ?_;rintro e' w1 ⟨rfl, rfl⟩;clear ER;go_wp2_with fail;go_ret;exact ⟨rfl, FIN.out⟩
theorem clk_value {w0 w : World} {R : List Nat} {t d s n : Nat} {E E' : List Ent} {caps : Array Value} {x e y : Int} (h : TxS w0 R w t d s n E) (he : (e = 0 ∧ y = x) ∨ (e ≠ 0 ∧ y = 0))
  (HC : ∀ R' wa, (∀ k ∈ R, k ∈ R') → TxS w0 R' wa t d s n E → KeptT R t w wa → Calls Tryz.prog 48 caps wa fun e' w' => e' = .returned (.tuple #[.int .i64 x, .int .i64 e]) ∧ TxS w0 R' w' t d s n E' ∧ KeptT R' t wa w') :
  Calls Tryz.prog 43 #[.pointer (some ⟨t, 0, none⟩), .func (.func 48) #[] caps] w fun e' w' => e' = .returned (.tuple #[.int .i64 y, .int .i64 e]) ∧ TxS w0 R w' t d s n E' ∧ KeptT R t w w' := by
 obtain ⟨a1, a2, a3, a4, a5, a6, a7⟩ := h.box (.cells #[.func (.func 48) #[] caps] 88);obtain ⟨x1, hx1⟩ : ∃ x1, w.alloc (.cells #[.func (.func 48) #[] caps] 88) = x1 := ⟨_, rfl⟩
 rw [hx1] at a1 a2 a3 a5;obtain ⟨b1, b2, b3, b4, b5, b6, b7⟩ := a1.box (.cells #[.int .i64 0] 3);obtain ⟨x2, hx2⟩ : ∃ x2, x1.alloc (.cells #[.int .i64 0] 3) = x2 := ⟨_, rfl⟩
 rw [hx2] at b1 b2 b3 b5;rw [a5] at b1 b3 b4 b5 b6 b7;have hbk := (b2 w.heap.size (by simp) a4).trans a3;have HK := HC ((w.heap.size + 1) :: w.heap.size :: R) x2 (fun k hk => by simp [hk]) b1 (a2.trans (b2.sub (fun k hk => by simp [hk])));have V1 := Hd (clk_errno b1 (clk_val1 b1 hbk b3 (by simp) b4 b6 HK));have KP := Hd (And.intro a2 (And.intro b2 (And.intro a7 b7)));have HE := Hd he;have X1 := Hd hx1;have X2 := Hd hx2;clear h he HC a1 a2 a3 a4 a6 a7 b1 b2 b3 b4 b5 b6 b7 hbk HK hx1 hx2;have A5 := Hd a5;clear a5;go_enter Tryz.func43, Tryz.ntmps43;go_upto_region 2 with fail
 try simp only [Nat.add_assoc, Nat.reduceAdd, World.heap_size_alloc]
 rw [X1.out, X2.out];go_wp2_with fail;refine V1.out.mono ?_;rintro e' w4 ⟨rfl, h1, h2, h3⟩;have c2 := (box1 h2).1;have FIN : Hid (TxS w0 R w4 t d s n E' ∧ KeptT R t w w4) := Hd ⟨h1.sub (fun k hk => by simp [hk]), fun k hk hn => (h3 k (by simp [hk]) hn (KP.out.2.2.2 k (by simp [hk]))).trans ((KP.out.2.1 k (by simp [hk]) hn).trans (KP.out.1 k hk hn))⟩;clear h1 h2 h3 V1
 rcases HE.out with ⟨rfl, rfl⟩ | ⟨hne, rfl⟩
 ·go_wp2_with fail
  go_ret2;exact ⟨rfl, FIN.out⟩
 ·have hn1 : (e == 0) = false := by simpa using hne
  have hn2 : (e != 0) = true := by simp [hne]
  clear hne;go_wp2_with fail;go_ret2;exact ⟨rfl, FIN.out⟩
theorem tik_val1 {w0 w : World} {R : List Nat} {t d s n b c : Nat} {E E' : List Ent} {caps : Array Value} {x e : Int} (h : TxS w0 R w t d s n E) (hb : w.heap[b]? = some (.cells #[.func (.func 44) #[] caps] 88)) (hc : w.heap[c]? = some (.cells #[.int .i64 0] 3)) (hcR : c ∈ R) (hct : c ≠ t) (hc0 : w0.heap.size ≤ c)
  (HC : Calls Tryz.prog 44 caps w fun e' w' => e' = .returned (.tuple #[.int .i64 x, .int .i64 e]) ∧ TxS w0 R w' t d s n E' ∧ KeptT R t w w') :
  Calls Tryz.prog 89 #[.pointer (some ⟨b, 0, none⟩), .pointer (some ⟨c, 0, none⟩)] w fun e' w' => e' = .returned (.int .i64 e) ∧ TxS w0 R w' t d s n E' ∧ w'.heap[c]? = some (.cells #[.int .i64 x] 3) ∧ ∀ k ∈ R, k ≠ t → k ≠ c → w'.heap[k]? = w.heap[k]? := by
 have cb := (box1 hb).1;have H := Hd HC;have HX := Hd (And.intro hc (And.intro hcR (And.intro hct hc0)));clear h hb hc hcR hct hc0 HC;go_enter Tryz.func89, Tryz.ntmps89;go_wp2_with fail;refine H.out.mono ?_;rintro e' w1 ⟨rfl, h1, h2⟩;have hc1 := (h2 c HX.out.2.1 HX.out.2.2.1).trans HX.out.1;obtain ⟨c1, g1⟩ := box1 hc1
 have FIN : Hid (TxS w0 R (w1.setCell ⟨c, 0, none⟩ (.int .i64 x)) t d s n E' ∧ (w1.setCell ⟨c, 0, none⟩ (.int .i64 x)).heap[c]? = some (.cells #[.int .i64 x] 3) ∧ ∀ k ∈ R, k ≠ t → k ≠ c → (w1.setCell ⟨c, 0, none⟩ (.int .i64 x)).heap[k]? = w.heap[k]?) := Hd (by
  have f := set_frmT (w := w1) (b := c) (i := 0) (.int .i64 x);refine ⟨h1.turn HX.out.2.1 HX.out.2.2.1 HX.out.2.2.2 f, ?_, fun k hk hn hnc => (f.block k (h1.lt.1 k hk) hnc).trans (h2 k hk hn)⟩;rw [heap_setCell_same _ _ 0 _ _ _ hc1]; rfl)
 clear h1 h2 hc1 cb;go_wp2_with fail;go_ret;exact ⟨rfl, FIN.out⟩
theorem tik_errno {w0 w : World} {R : List Nat} {t d s n : Nat} {E E' : List Ent} {caps : Array Value} {e : Int} {Q : World → Prop} (h : TxS w0 R w t d s n E)
  (HC : Calls Tryz.prog 89 caps w fun e' w' => e' = .returned (.int .i64 e) ∧ TxS w0 R w' t d s n E' ∧ Q w') :
  Calls Tryz.prog 74 #[.pointer (some ⟨t, 0, none⟩), .func (.func 89) #[] caps] w fun e' w' => e' = .returned (.int .i64 e) ∧ TxS w0 R w' t d s n E' ∧ Q w' := by
 have ER := Hd (err_S h);have H := Hd HC;clear h HC;go_enter Tryz.func74, Tryz.ntmps74;go_wp2_with fail;refine ER.out.mono ?_;rintro e' w1 ⟨rfl, rfl⟩;clear ER;go_wp2_with fail;refine H.out.mono ?_;rintro e' w2 ⟨rfl, h1, h2⟩;have ER := Hd (err_S h1);have FIN := Hd (And.intro h1 h2);clear h1 h2 H;go_wp2_with fail;refine ER.out.mono ?_;rintro e' w1 ⟨rfl, rfl⟩;clear ER;go_wp2_with fail;go_ret;exact ⟨rfl, FIN.out⟩
theorem tik_value {w0 w : World} {R : List Nat} {t d s n : Nat} {E E' : List Ent} {caps : Array Value} {x e y : Int} (h : TxS w0 R w t d s n E) (he : (e = 0 ∧ y = x) ∨ (e ≠ 0 ∧ y = 0))
  (HC : ∀ R' wa, (∀ k ∈ R, k ∈ R') → TxS w0 R' wa t d s n E → KeptT R t w wa → Calls Tryz.prog 44 caps wa fun e' w' => e' = .returned (.tuple #[.int .i64 x, .int .i64 e]) ∧ TxS w0 R' w' t d s n E' ∧ KeptT R' t wa w') :
  Calls Tryz.prog 43 #[.pointer (some ⟨t, 0, none⟩), .func (.func 44) #[] caps] w fun e' w' => e' = .returned (.tuple #[.int .i64 y, .int .i64 e]) ∧ TxS w0 R w' t d s n E' ∧ KeptT R t w w' := by
 obtain ⟨a1, a2, a3, a4, a5, a6, a7⟩ := h.box (.cells #[.func (.func 44) #[] caps] 88);obtain ⟨x1, hx1⟩ : ∃ x1, w.alloc (.cells #[.func (.func 44) #[] caps] 88) = x1 := ⟨_, rfl⟩
 rw [hx1] at a1 a2 a3 a5;obtain ⟨b1, b2, b3, b4, b5, b6, b7⟩ := a1.box (.cells #[.int .i64 0] 3);obtain ⟨x2, hx2⟩ : ∃ x2, x1.alloc (.cells #[.int .i64 0] 3) = x2 := ⟨_, rfl⟩
 rw [hx2] at b1 b2 b3 b5;rw [a5] at b1 b3 b4 b5 b6 b7;have hbk := (b2 w.heap.size (by simp) a4).trans a3;have HK := HC ((w.heap.size + 1) :: w.heap.size :: R) x2 (fun k hk => by simp [hk]) b1 (a2.trans (b2.sub (fun k hk => by simp [hk])));have V1 := Hd (tik_errno b1 (tik_val1 b1 hbk b3 (by simp) b4 b6 HK));have KP := Hd (And.intro a2 (And.intro b2 (And.intro a7 b7)));have HE := Hd he;have X1 := Hd hx1;have X2 := Hd hx2;clear h he HC a1 a2 a3 a4 a6 a7 b1 b2 b3 b4 b5 b6 b7 hbk HK hx1 hx2;have A5 := Hd a5;clear a5;go_enter Tryz.func43, Tryz.ntmps43;go_upto_region 2 with fail
 try simp only [Nat.add_assoc, Nat.reduceAdd, World.heap_size_alloc]
 rw [X1.out, X2.out];go_wp2_with fail;refine V1.out.mono ?_;rintro e' w4 ⟨rfl, h1, h2, h3⟩;have c2 := (box1 h2).1;have FIN : Hid (TxS w0 R w4 t d s n E' ∧ KeptT R t w w4) := Hd ⟨h1.sub (fun k hk => by simp [hk]), fun k hk hn => (h3 k (by simp [hk]) hn (KP.out.2.2.2 k (by simp [hk]))).trans ((KP.out.2.1 k (by simp [hk]) hn).trans (KP.out.1 k hk hn))⟩;clear h1 h2 h3 V1
 rcases HE.out with ⟨rfl, rfl⟩ | ⟨hne, rfl⟩
 ·go_wp2_with fail
  go_ret2;exact ⟨rfl, FIN.out⟩
 ·have hn1 : (e == 0) = false := by simpa using hne
  have hn2 : (e != 0) = true := by simp [hne]
  clear hne;go_wp2_with fail;go_ret2;exact ⟨rfl, FIN.out⟩
theorem lsKey_is (k a b q : Int) (w : World) (hq : keyN k a b = q) :
  Calls Tryz.prog 47 #[.int .i64 k, .int .i64 a, .int .i64 b] w fun e w' => e = .returned (.int .u64 q) ∧ w = w' := by
 have HQ := Hd hq;clear hq;go_enter Tryz.func47, Tryz.ntmps47;go_wp2_with fail;refine (key_any _ _ _ _).mono ?_;rw [HQ.out];rintro e w1 ⟨rfl, rfl⟩;go_wp2_with fail;go_ret;exact ⟨rfl, rfl⟩
def ClkE (E : List Ent) (now : Int) : Prop := (getB 10376293541461622788 E = false ∧ now = 0) ∨ (getB 10376293541461622788 E = true ∧ getV 10376293541461622788 E = Str (putL now 4) ∧ 0 ≤ now ∧ now ≤ 268435455)
theorem ClkE.range {E : List Ent} {now : Int} (h : ClkE E now) : 0 ≤ now ∧ now ≤ 268435455 := by
 rcases h with ⟨_, rfl⟩ | ⟨_, _, h⟩
 ·decide
 ·exact h
theorem ClkE.ins (E : List Ent) {now : Int} (h0 : 0 ≤ now) (h1 : now ≤ 268435455) : ClkE (insE 10376293541461622788 (Str (putL now 4)) E) now := by
 refine .inr ⟨?_, ?_, h0, h1⟩
 ·unfold getB; rw [getE_ins, if_pos rfl]; rfl
 ·unfold getV; rw [getE_ins, if_pos rfl]
theorem clk_put {now : Int} (h0 : 0 ≤ now) (h1 : now ≤ 268435455) : takeN (Str (putL now 4)) 4 = now ∧ takeR (Str (putL now 4)) 4 = ⟨#[]⟩ ∧ takeE (Str (putL now 4)) 4 = 0 ∧ (Str (putL now 4)).size = 4 := by
 have hp : putOk now 4 = true := by
  obtain ⟨m, rfl⟩ := Int.eq_ofNat_of_zero_le h0;exact (putOk_nat m 4).2 ⟨by decide, by decide, by show m < 4294967296; omega⟩
 have h2 := pt_n (n := now) (k := 4) ⟨#[]⟩ h0 hp;rw [append_empty] at h2;have h3 := pt_size hp;refine ⟨h2.1, h2.2, ?_, by omega⟩;have hk : takeOk (Str (putL now 4)) 4 = true := by unfold takeOk; simp; omega
 unfold takeE; rw [if_pos hk]
theorem clock1_none {w0 w : World} {R : List Nat} {t d s n : Nat} {E : List Ent} {b : Nat} (h : TxS w0 R w t d s n E) (hb : w.heap[b]? = some (.cells #[.pointer (some ⟨t, 0, none⟩)] 24)) (hbR : b ∈ R) (hbt : b ≠ t) (hE : E.length ≤ 600) (hg : getB 10376293541461622788 E = false) :
  Calls Tryz.prog 48 #[.pointer (some ⟨b, 0, none⟩)] w fun e w' => e = .returned (.tuple #[.int .i64 0, .int .i64 0]) ∧ TxS w0 R w' t d s n E ∧ KeptT R t w w' := by
 have GE := Hd (get_S (key := 10376293541461622788) (h.below Br.drew) hE (by decide) ⟨#[]⟩ false (by unfold getV getB at *; revert hg; cases getE 10376293541461622788 E <;> simp) hg);clear hg;have HB := Hd (And.intro (show w.drew.heap[b]? = some (.cells #[.pointer (some ⟨t, 0, none⟩)] 24) from hb) (And.intro hbR hbt));clear h hb hbR hbt hE;go_enter Tryz.func48, Tryz.ntmps48;go_upto_region 1 with fail
 refine wp_region_held_drew (S := fun w' => w'.heap[b]? = some (.cells #[.pointer (some ⟨t, 0, none⟩)] 24)) (by kernel_rfl) HB.out.1 (fun hS => ?_);refine Hv 0 9 ?va0x1 hS ?ha0x1 ?_
 case ha0x1 =>
  intro w9 s9;have k9 := (box1 s9).1;clear s9;go_simp;try (with_reducible rfl)
 simp only [SL];refine Hs 1 (fun K HK => ?_);go_simp;go_wp2_with fail;refine (lsKey_is 9 0 4 10376293541461622788 _ (by decide)).mono ?_;rintro e w6 ⟨rfl, rfl⟩;refine HK.out _ _ ?_ ?_
 ·exact hS
 clear HK K;try simp only [Act.put, SL]
 refine Hs 2 (fun K HK => ?_);go_simp;go_wp2_with fail;refine GE.out.mono ?_;rintro e w7 ⟨rfl, h1, h2⟩;refine HK.out _ _ ?_ ?_
 ·exact (h2 b HB.out.2.1 HB.out.2.2).trans hS
 clear HK K;try simp only [Act.put, SL]
 have hS9 := (h2 b HB.out.2.1 HB.out.2.2).trans hS;clear hS;have hS := hS9;clear hS9;have FIN := Hd (And.intro h1 (show KeptT R t w w7 from h2));clear h1 h2 GE;refine Hu 3 8 hS ?_;simp only [SL];refine Hu 4 12 hS ?_;simp only [SL];refine Hu 5 13 hS ?_;simp only [SL];refine Hu 6 3 hS ?_;simp only [SL];refine Hu 7 4 hS ?_;simp only [SL];refine wpAnyH_done (by kernel_rfl) ?_ _;clear hS;go_wp2_with fail;go_ret2;exact ⟨rfl, FIN.out⟩
theorem clock1_some {w0 w : World} {R : List Nat} {t d s n : Nat} {E : List Ent} {b : Nat} (h : TxS w0 R w t d s n E) (hb : w.heap[b]? = some (.cells #[.pointer (some ⟨t, 0, none⟩)] 24)) (hbR : b ∈ R) (hbt : b ≠ t) (hE : E.length ≤ 600) {now : Int} (hg : getB 10376293541461622788 E = true) (hv : getV 10376293541461622788 E = Str (putL now 4)) (h0 : 0 ≤ now) (h1 : now ≤ 268435455) :
  Calls Tryz.prog 48 #[.pointer (some ⟨b, 0, none⟩)] w fun e w' => e = .returned (.tuple #[.int .i64 now, .int .i64 0]) ∧ TxS w0 R w' t d s n E ∧ KeptT R t w w' := by
 obtain ⟨q1, q2, q3, q4⟩ := clk_put h0 h1;obtain ⟨X, hX⟩ : ∃ X, Str (putL now 4) = X := ⟨_, rfl⟩
 rw [hX] at q1 q2 q3 hv;have TA := Hd (fun w => by have := take_any X 4 w; rw [q1, q2, q3] at this; exact this);have GE := Hd (get_S (key := 10376293541461622788) (h.below Br.drew) hE (by decide) X true hv hg);have hn1 : ¬ (268435455 : Int) < now := by omega
 have hw1 : IntKind.i64.wrap now = now := IntWalk.i64_in _ (by omega);clear hg hv h0 h1 q1 q2 q3 q4 hX;have HB := Hd (And.intro (show w.drew.heap[b]? = some (.cells #[.pointer (some ⟨t, 0, none⟩)] 24) from hb) (And.intro hbR hbt));clear h hb hbR hbt hE;go_enter Tryz.func48, Tryz.ntmps48;go_upto_region 1 with fail
 refine wp_region_held_drew (S := fun w' => w'.heap[b]? = some (.cells #[.pointer (some ⟨t, 0, none⟩)] 24)) (by kernel_rfl) HB.out.1 (fun hS => ?_);refine Hv 0 9 ?va0x1 hS ?ha0x1 ?_
 case ha0x1 =>
  intro w9 s9;have k9 := (box1 s9).1;clear s9;go_simp;try (with_reducible rfl)
 simp only [SL];refine Hs 1 (fun K HK => ?_);go_simp;go_wp2_with fail;refine (lsKey_is 9 0 4 10376293541461622788 _ (by decide)).mono ?_;rintro e w6 ⟨rfl, rfl⟩;refine HK.out _ _ ?_ ?_
 ·exact hS
 clear HK K;try simp only [Act.put, SL]
 refine Hs 2 (fun K HK => ?_);go_simp;go_wp2_with fail;refine GE.out.mono ?_;rintro e w7 ⟨rfl, h1, h2⟩;refine HK.out _ _ ?_ ?_
 ·exact (h2 b HB.out.2.1 HB.out.2.2).trans hS
 clear HK K;try simp only [Act.put, SL]
 have hS9 := (h2 b HB.out.2.1 HB.out.2.2).trans hS;clear hS;have hS := hS9;clear hS9;have FIN := Hd (And.intro h1 (show KeptT R t w w7 from h2));clear h1 h2 GE;refine Hu 3 8 hS ?_;simp only [SL];refine Hu 4 12 hS ?_;simp only [SL];refine Hu 5 13 hS ?_;simp only [SL];refine Hu 6 3 hS ?_;simp only [SL];refine Hu 7 4 hS ?_;simp only [SL];refine wpAnyH_done (by kernel_rfl) ?_ _;clear hS;go_wp2_with fail;refine (TA.out _).mono ?_;rintro e w8 ⟨rfl, b8⟩;have F8 := Hd (And.intro (FIN.out.1.below b8) (FIN.out.2.trans (FIN.out.1.kept b8)));clear b8 FIN;go_wp2_with fail;go_ret2;exact ⟨rfl, F8.out⟩
theorem clock_is {w0 w : World} {R : List Nat} {t d s n : Nat} {E : List Ent} {now : Int} (h : TxS w0 R w t d s n E) (hE : E.length ≤ 600) (hc : ClkE E now) :
  Calls Tryz.prog 18 #[.pointer (some ⟨t, 0, none⟩)] w fun e w' => e = .returned (.tuple #[.int .i64 now, .int .i64 0]) ∧ TxS w0 R w' t d s n E ∧ KeptT R t w w' := by
 obtain ⟨a1, a2, a3, a4, a5, a6, a7⟩ := h.box (.cells #[.pointer (some ⟨t, 0, none⟩)] 24);obtain ⟨x1, hx1⟩ : ∃ x1, w.alloc (.cells #[.pointer (some ⟨t, 0, none⟩)] 24) = x1 := ⟨_, rfl⟩
 rw [hx1] at a1 a2 a3 a5
 have VC := Hd (clk_value (x := now) (e := 0) (y := now) a1 (.inl ⟨rfl, rfl⟩) (caps := #[.pointer (some ⟨w.heap.size, 0, none⟩)]) (E' := E) (fun R' wa hs hT hK => by
  have hb := (hK w.heap.size (by simp) a4).trans a3;have hm := hs w.heap.size (by simp)
  rcases hc with ⟨g1, rfl⟩ | ⟨g1, g2, g3, g4⟩
  ·exact clock1_none hT hb hm a4 hE g1
  ·exact clock1_some hT hb hm a4 hE g1 g2 g3 g4))
 have KP := Hd a2;have X1 := Hd hx1;have bx := (box1 a3).1;clear h hE hc a1 a2 a3 a4 a5 a6 a7 hx1;go_enter Tryz.func18, Tryz.ntmps18;go_upto_region 1 with fail
 rw [X1.out];go_wp2_with fail;refine VC.out.mono ?_;rintro e w2 ⟨rfl, h1, h2⟩;have FIN : Hid (TxS w0 R w2 t d s n E ∧ KeptT R t w w2) := Hd ⟨h1.sub (fun k hk => by simp [hk]), KP.out.trans (h2.sub (fun k hk => by simp [hk]))⟩;clear h1 h2 VC bx;go_wp2_with fail;go_ret2;exact ⟨rfl, FIN.out⟩
theorem tick1_neg {w0 w : World} {R : List Nat} {t d s : Nat} {E : List Ent} {bn bt : Nat} {a : Int} (h : TxS w0 R w t d s 640 E) (hn : w.heap[bn]? = some (.cells #[.int .i64 a] 3)) (hb : w.heap[bt]? = some (.cells #[.pointer (some ⟨t, 0, none⟩)] 24)) (hm : (bn ∈ R ∧ bn ≠ t) ∧ (bt ∈ R ∧ bt ≠ t)) (ha : a < 0) :
  Calls Tryz.prog 44 #[.pointer (some ⟨bn, 0, none⟩), .pointer (some ⟨bt, 0, none⟩)] w fun e w' => e = .returned (.tuple #[.int .i64 0, .int .i64 1]) ∧ TxS w0 R w' t d s 640 E ∧ KeptT R t w w' := by
 have c0 := (box1 hn).1;have FIN := Hd (And.intro h (KeptT.refl R t w));clear h hn hb hm;go_enter Tryz.func44, Tryz.ntmps44;go_wp2_with fail;go_ret2;exact ⟨rfl, FIN.out⟩
theorem tick1_far {w0 w : World} {R : List Nat} {t d s : Nat} {E : List Ent} {bn bt : Nat} {a : Int} {now : Int} (h : TxS w0 R w t d s 640 E) (hn : w.heap[bn]? = some (.cells #[.int .i64 a] 3)) (hb : w.heap[bt]? = some (.cells #[.pointer (some ⟨t, 0, none⟩)] 24)) (hm : (bn ∈ R ∧ bn ≠ t) ∧ (bt ∈ R ∧ bt ≠ t)) (hE : E.length ≤ 300) (hc : ClkE E now) (ha : 0 ≤ a) (hf : 268435455 - now < a) :
  Calls Tryz.prog 44 #[.pointer (some ⟨bn, 0, none⟩), .pointer (some ⟨bt, 0, none⟩)] w fun e w' => e = .returned (.tuple #[.int .i64 0, .int .i64 12]) ∧ TxS w0 R w' t d s 640 E ∧ KeptT R t w w' := by
 have c0 := (box1 hn).1;have c1 := (box1 hb).1;have hr := hc.range;have hw : IntKind.i64.wrap (268435455 - now) = 268435455 - now := IntWalk.i64_in _ (by omega);have ha' : ¬ a < 0 := by omega
 have CL := Hd (clock_is h (by omega) hc);have HX := Hd (And.intro hn (And.intro hb hm));clear h hn hb hm hE hc hr ha;go_enter Tryz.func44, Tryz.ntmps44;go_wp2_with fail;refine CL.out.mono ?_;rintro e w1 ⟨rfl, h1, h2⟩;have d0 := (box1 ((h2 bn HX.out.2.2.1.1 HX.out.2.2.1.2).trans HX.out.1)).1;have FIN := Hd (And.intro h1 h2);clear h1 h2 c0 c1 CL;go_wp2_with fail;go_ret2;exact ⟨rfl, FIN.out⟩
theorem tick1_yes {w0 w : World} {R : List Nat} {t d s : Nat} {E : List Ent} {bn bt : Nat} {a : Int} {now m : Int} (h : TxS w0 R w t d s 640 E) (hn : w.heap[bn]? = some (.cells #[.int .i64 a] 3)) (hb : w.heap[bt]? = some (.cells #[.pointer (some ⟨t, 0, none⟩)] 24)) (hm : (bn ∈ R ∧ bn ≠ t) ∧ (bt ∈ R ∧ bt ≠ t)) (hE : E.length ≤ 300) (hc : ClkE E now) (ha : 0 ≤ a) (hf : a ≤ 268435455 - now) (hsm : now + a = m) :
  Calls Tryz.prog 44 #[.pointer (some ⟨bn, 0, none⟩), .pointer (some ⟨bt, 0, none⟩)] w fun e w' => e = .returned (.tuple #[.int .i64 m, .int .i64 0]) ∧ TxS w0 R w' t d s 640 (insE 10376293541461622788 (Str (putL m 4)) E) ∧ KeptT R t w w' := by
 have c0 := (box1 hn).1;have c1 := (box1 hb).1;have hr := hc.range;have hw : IntKind.i64.wrap (268435455 - now) = 268435455 - now := IntWalk.i64_in _ (by omega);have hw2 : IntKind.i64.wrap (now + a) = m := by rw [hsm]; exact IntWalk.i64_in _ (by omega)
 have hw3 : IntKind.u64.wrap m = m := IntWalk.u64_in _ (by omega);have ha' : ¬ a < 0 := by omega
 have hf' : ¬ 268435455 - now < a := by omega
 have HM : Hid (0 ≤ m ∧ m ≤ 268435455) := Hd (by omega);have CL := Hd (clock_is h (by omega) hc);have HX := Hd (And.intro hn (And.intro hb hm));obtain ⟨Y, hY⟩ : ∃ Y, Str (putL m 4) = Y := ⟨_, rfl⟩
 have PT := Hd (fun w => by have := put_any m 4 w HM.out.1; rw [hY] at this; exact this);have HY : Hid (Y.size ≤ 40) := Hd (by rw [← hY]; have := (clk_put HM.out.1 HM.out.2).2.2.2; omega);have HE := Hd hE;rw [hY];clear h hn hb hm hE hc hr ha hf hsm hY;go_enter Tryz.func44, Tryz.ntmps44;go_wp2_with fail;refine CL.out.mono ?_;rintro e w1 ⟨rfl, h1, h2⟩;have d0 := (box1 ((h2 bn HX.out.2.2.1.1 HX.out.2.2.1.2).trans HX.out.1)).1;have FIN := Hd (And.intro h1 h2);clear h1 h2 c0 c1 CL;go_wp2_with fail;refine (PT.out _).mono ?_;rintro e w3 ⟨rfl, b3⟩
 have F3 := Hd (And.intro (FIN.out.1.below b3) (FIN.out.2.trans (FIN.out.1.kept b3)));clear b3 FIN d0;have PU := Hd (put_S (key := 10376293541461622788) (val := Y) (F3.out.1.below Br.drew) HE.out (by decide) HY.out);have HB : Hid (w3.drew.heap[bt]? = some (.cells #[.pointer (some ⟨t, 0, none⟩)] 24)) := Hd ((F3.out.2 bt HX.out.2.2.2.1 HX.out.2.2.2.2).trans HX.out.2.1);go_upto_region 10 with fail
 refine wp_region_held_drew (S := fun w' => w'.heap[bt]? = some (.cells #[.pointer (some ⟨t, 0, none⟩)] 24)) (by kernel_rfl) HB.out (fun hS => ?_);refine Hv 0 31 ?va0x1 hS ?ha0x1 ?_
 case ha0x1 =>
  intro w9 s9;have k9 := (box1 s9).1;clear s9;go_simp;try (with_reducible rfl)
 simp only [SL];refine Hu 2 33 hS ?_;simp only [SL];refine Hs 1 (fun K HK => ?_);go_simp;go_wp2_with fail;refine (lsKey_is 9 0 4 10376293541461622788 _ (by decide)).mono ?_;rintro e w6 ⟨rfl, rfl⟩;refine HK.out _ _ ?_ ?_
 ·exact hS
 clear HK K;try simp only [Act.put, SL]
 refine Hs 3 (fun K HK => ?_);go_simp;go_wp2_with fail;refine PU.out.mono ?_;rintro e w7 ⟨rfl, h1, h2⟩;refine HK.out _ _ ?_ ?_
 ·exact (h2 bt HX.out.2.2.2.1 HX.out.2.2.2.2).trans hS
 clear HK K;try simp only [Act.put, SL]
 have FIN := Hd (And.intro h1 (F3.out.2.trans (show KeptT R t w3 w7 from h2)));clear h1 h2 PU;refine wpAnyH_done (by kernel_rfl) ?_ _;clear hS;go_wp2_with fail;go_ret2;exact ⟨rfl, FIN.out⟩
theorem tick_neg {w0 w : World} {R : List Nat} {t d s : Nat} {E : List Ent} {a now m : Int} (h : TxS w0 R w t d s 640 E) (hE : E.length ≤ 300) (hc : ClkE E now) (ha : a < 0) :
  Calls Tryz.prog 17 #[.pointer (some ⟨t, 0, none⟩), .int .i64 a] w fun e w' => e = .returned (.tuple #[.int .i64 0, .int .i64 1]) ∧ TxS w0 R w' t d s 640 (E) ∧ KeptT R t w w' := by
 obtain ⟨a1, a2, a3, a4, a5, a6, a7⟩ := h.box (.cells #[.pointer (some ⟨t, 0, none⟩)] 24);obtain ⟨x1, hx1⟩ : ∃ x1, w.alloc (.cells #[.pointer (some ⟨t, 0, none⟩)] 24) = x1 := ⟨_, rfl⟩
 rw [hx1] at a1 a2 a3 a5;obtain ⟨b1, b2, b3, b4, b5, b6, b7⟩ := a1.box (.cells #[.int .i64 a] 3);obtain ⟨x2, hx2⟩ : ∃ x2, x1.alloc (.cells #[.int .i64 a] 3) = x2 := ⟨_, rfl⟩
 rw [hx2] at b1 b2 b3 b5;rw [a5] at b1 b3 b4 b5 b6 b7;have hbk := (b2 w.heap.size (by simp) a4).trans a3
 have VC := Hd (tik_value (x := 0) (e := 1) (y := 0) b1 (by first | exact .inl ⟨rfl, rfl⟩ | exact .inr ⟨by decide, rfl⟩) (caps := #[.pointer (some ⟨w.heap.size + 1, 0, none⟩), .pointer (some ⟨w.heap.size, 0, none⟩)]) (E' := E) (fun R' wa hs hT hK => by
  have g1 := (hK (w.heap.size + 1) (by simp) b4).trans b3;have g2 := (hK w.heap.size (by simp) a4).trans hbk;exact tick1_neg hT g1 g2 ⟨⟨hs _ (by simp), b4⟩, ⟨hs _ (by simp), a4⟩⟩ ha))
 have KP := Hd (a2.trans (b2.sub (fun k hk => by simp [hk])));have X1 := Hd hx1;have X2 := Hd hx2;have A5 := Hd a5;have bx := (box1 hbk).1;clear h hE hc a1 a2 a3 a4 a5 a6 a7 b1 b2 b3 b4 b5 b6 b7 hx1 hx2 hbk;go_enter Tryz.func17, Tryz.ntmps17;go_upto_region 1 with fail
 try simp only [World.heap_size_alloc]
 rw [X1.out, X2.out];go_wp2_with fail;refine VC.out.mono ?_;rintro e w2 ⟨rfl, h1, h2⟩;have FIN : Hid (TxS w0 R w2 t d s 640 (E) ∧ KeptT R t w w2) := Hd ⟨h1.sub (fun k hk => by simp [hk]), KP.out.trans (h2.sub (fun k hk => by simp [hk]))⟩;clear h1 h2 VC bx;go_wp2_with fail;go_ret2;exact ⟨rfl, FIN.out⟩
theorem tick_far {w0 w : World} {R : List Nat} {t d s : Nat} {E : List Ent} {a now m : Int} (h : TxS w0 R w t d s 640 E) (hE : E.length ≤ 300) (hc : ClkE E now) (ha : 0 ≤ a) (hf : 268435455 - now < a) :
  Calls Tryz.prog 17 #[.pointer (some ⟨t, 0, none⟩), .int .i64 a] w fun e w' => e = .returned (.tuple #[.int .i64 0, .int .i64 12]) ∧ TxS w0 R w' t d s 640 (E) ∧ KeptT R t w w' := by
 obtain ⟨a1, a2, a3, a4, a5, a6, a7⟩ := h.box (.cells #[.pointer (some ⟨t, 0, none⟩)] 24);obtain ⟨x1, hx1⟩ : ∃ x1, w.alloc (.cells #[.pointer (some ⟨t, 0, none⟩)] 24) = x1 := ⟨_, rfl⟩
 rw [hx1] at a1 a2 a3 a5;obtain ⟨b1, b2, b3, b4, b5, b6, b7⟩ := a1.box (.cells #[.int .i64 a] 3);obtain ⟨x2, hx2⟩ : ∃ x2, x1.alloc (.cells #[.int .i64 a] 3) = x2 := ⟨_, rfl⟩
 rw [hx2] at b1 b2 b3 b5;rw [a5] at b1 b3 b4 b5 b6 b7;have hbk := (b2 w.heap.size (by simp) a4).trans a3
 have VC := Hd (tik_value (x := 0) (e := 12) (y := 0) b1 (by first | exact .inl ⟨rfl, rfl⟩ | exact .inr ⟨by decide, rfl⟩) (caps := #[.pointer (some ⟨w.heap.size + 1, 0, none⟩), .pointer (some ⟨w.heap.size, 0, none⟩)]) (E' := E) (fun R' wa hs hT hK => by
  have g1 := (hK (w.heap.size + 1) (by simp) b4).trans b3;have g2 := (hK w.heap.size (by simp) a4).trans hbk;exact tick1_far hT g1 g2 ⟨⟨hs _ (by simp), b4⟩, ⟨hs _ (by simp), a4⟩⟩ hE hc ha hf))
 have KP := Hd (a2.trans (b2.sub (fun k hk => by simp [hk])));have X1 := Hd hx1;have X2 := Hd hx2;have A5 := Hd a5;have bx := (box1 hbk).1;clear h hE hc a1 a2 a3 a4 a5 a6 a7 b1 b2 b3 b4 b5 b6 b7 hx1 hx2 hbk;go_enter Tryz.func17, Tryz.ntmps17;go_upto_region 1 with fail
 try simp only [World.heap_size_alloc]
 rw [X1.out, X2.out];go_wp2_with fail;refine VC.out.mono ?_;rintro e w2 ⟨rfl, h1, h2⟩;have FIN : Hid (TxS w0 R w2 t d s 640 (E) ∧ KeptT R t w w2) := Hd ⟨h1.sub (fun k hk => by simp [hk]), KP.out.trans (h2.sub (fun k hk => by simp [hk]))⟩;clear h1 h2 VC bx;go_wp2_with fail;go_ret2;exact ⟨rfl, FIN.out⟩
theorem tick_yes {w0 w : World} {R : List Nat} {t d s : Nat} {E : List Ent} {a now m : Int} (h : TxS w0 R w t d s 640 E) (hE : E.length ≤ 300) (hc : ClkE E now) (ha : 0 ≤ a) (hf : a ≤ 268435455 - now) (hsm : now + a = m) :
  Calls Tryz.prog 17 #[.pointer (some ⟨t, 0, none⟩), .int .i64 a] w fun e w' => e = .returned (.tuple #[.int .i64 m, .int .i64 0]) ∧ TxS w0 R w' t d s 640 (insE 10376293541461622788 (Str (putL m 4)) E) ∧ KeptT R t w w' := by
 obtain ⟨a1, a2, a3, a4, a5, a6, a7⟩ := h.box (.cells #[.pointer (some ⟨t, 0, none⟩)] 24);obtain ⟨x1, hx1⟩ : ∃ x1, w.alloc (.cells #[.pointer (some ⟨t, 0, none⟩)] 24) = x1 := ⟨_, rfl⟩
 rw [hx1] at a1 a2 a3 a5;obtain ⟨b1, b2, b3, b4, b5, b6, b7⟩ := a1.box (.cells #[.int .i64 a] 3);obtain ⟨x2, hx2⟩ : ∃ x2, x1.alloc (.cells #[.int .i64 a] 3) = x2 := ⟨_, rfl⟩
 rw [hx2] at b1 b2 b3 b5;rw [a5] at b1 b3 b4 b5 b6 b7;have hbk := (b2 w.heap.size (by simp) a4).trans a3
 have VC := Hd (tik_value (x := m) (e := 0) (y := m) b1 (by first | exact .inl ⟨rfl, rfl⟩ | exact .inr ⟨by decide, rfl⟩) (caps := #[.pointer (some ⟨w.heap.size + 1, 0, none⟩), .pointer (some ⟨w.heap.size, 0, none⟩)]) (E' := insE 10376293541461622788 (Str (putL m 4)) E) (fun R' wa hs hT hK => by
  have g1 := (hK (w.heap.size + 1) (by simp) b4).trans b3;have g2 := (hK w.heap.size (by simp) a4).trans hbk;exact tick1_yes hT g1 g2 ⟨⟨hs _ (by simp), b4⟩, ⟨hs _ (by simp), a4⟩⟩ hE hc ha hf hsm))
 have KP := Hd (a2.trans (b2.sub (fun k hk => by simp [hk])));have X1 := Hd hx1;have X2 := Hd hx2;have A5 := Hd a5;have bx := (box1 hbk).1;clear h hE hc a1 a2 a3 a4 a5 a6 a7 b1 b2 b3 b4 b5 b6 b7 hx1 hx2 hbk;go_enter Tryz.func17, Tryz.ntmps17;go_upto_region 1 with fail
 try simp only [World.heap_size_alloc]
 rw [X1.out, X2.out];go_wp2_with fail;refine VC.out.mono ?_;rintro e w2 ⟨rfl, h1, h2⟩;have FIN : Hid (TxS w0 R w2 t d s 640 (insE 10376293541461622788 (Str (putL m 4)) E) ∧ KeptT R t w w2) := Hd ⟨h1.sub (fun k hk => by simp [hk]), KP.out.trans (h2.sub (fun k hk => by simp [hk]))⟩;clear h1 h2 VC bx;go_wp2_with fail;go_ret2;exact ⟨rfl, FIN.out⟩
theorem made16_is (w : World) :
  Calls Tryz.prog 16 #[] w fun e w' => ∃ t d s, e = .returned (.pointer (some ⟨t, 0, none⟩)) ∧ TxS w [] w' t d s 640 [] := by
 have NY := Hd fun w => new_yes w 640 (by decide) (by decide)
 have hln : (DkS.fresh 640).S.length = 640 := by show (List.replicate 640 zs).length = 640; rw [List.length_replicate]
 have FG := Hd (fmt_good (DkS.fresh 640) rfl rfl (by rw [hln]; decide) (by rw [hln]; decide));rw [hln] at FG;clear hln;go_enter Tryz.func16, Tryz.ntmps16;go_wp2_with fail;refine (NY.out _).mono ?_;intro e w1 hm;obtain ⟨d, rfl, hd⟩ := made_L Br hm;clear hm NY;have HD := Hd hd;clear hd;have pn := ptr_nilD ⟨d, 0, none⟩;go_wp2_with fail;refine (format_L HD.out FG.out.1).mono ?_;rintro e w3 ⟨s, rfl, hs⟩;have BG := Hd (begin_L hs FG.out.2.1 FG.out.2.2.1 FG.out.2.2.2);clear hs HD;have sn := ptr_nilS ⟨s, 0, none⟩;go_wp2_with fail;refine BG.out.mono ?_;rintro e w4 ⟨t, rfl, h1, h2, h3⟩
 have FIN := Hd (show TxS w [] w4 t d s 640 [] from ⟨⟨0, h1, h2⟩, h3⟩);clear h1 h2 h3 BG;go_wp2_with fail;go_ret;exact ⟨t, d, s, rfl, FIN.out⟩
theorem examples_yes16 (w : World) :
  Calls Tryz.prog 15 #[] w fun e w' => e = .returned (.bool true) ∧ Below w.heap.size w w' := by
 have MD := Hd (made16_is w);have c0 : ClkE [] 0 := .inl ⟨by decide, rfl⟩;have c5 : ClkE (insE 10376293541461622788 (Str (putL 5 4)) []) 5 := ClkE.ins [] (by decide) (by decide);have C0 := Hd c0;have C5 := Hd c5;clear c0 c5;go_enter Tryz.func15, Tryz.ntmps15;try simp only [List.append_eq, List.cons_append, List.nil_append]
 go_wp2_with fail;refine MD.out.mono ?_;rintro e w1 ⟨t, d, s, rfl, h1⟩;have pn := ptr_nilT ⟨t, 0, none⟩;have CL := Hd (clock_is h1 (by simp) C0.out);clear h1 MD;go_wp2_with fail;refine CL.out.mono ?_;rintro e w2 ⟨rfl, h1, _⟩;have TK := Hd (tick_yes (a := 5) (m := 5) h1 (by simp) C0.out (by decide) (by decide) (by decide));clear h1 CL;go_wp2_with fail;refine TK.out.mono ?_;rintro e w3 ⟨rfl, h1, _⟩;have TF := Hd (tick_far (a := 268435455) (m := 0) h1 (by have := insE_len 10376293541461622788 (Str (putL 5 4)) []; simp at this ⊢; omega) C5.out (by decide) (by decide));clear h1 TK;go_wp2_with fail
 refine TF.out.mono ?_;rintro e w4 ⟨rfl, h1, _⟩;have FIN := Hd h1.from;clear h1 TF;go_wp2_with fail;go_ret;exact ⟨rfl, FIN.out⟩
theorem i64_cell {w : World} {a : Option Addr} {len cap : Nat} {zs : List Int} (hk : IsInts .i64 w a len cap zs) (j : Nat) (hj : j < len) : ∃ (x : Addr) (z : Int), a = some x ∧ zs.getD j 0 = z ∧ (-9223372036854775808 ≤ z ∧ z ≤ 9223372036854775807) ∧ Hid (∀ wr, Below w.heap.size w wr → wr.cell? (x.add j) = some (.int .i64 z)) := by
 rcases hk with ⟨rfl, rfl, rfl, rfl⟩ | ⟨x, rfl, h1, h2, h3, h4, h5⟩
 ·omega
 ·have hjl : j < zs.length := by omega
  refine ⟨x, _, rfl, rfl, ?_, Hd fun wr hb => ?_⟩
  ·have hm : zs.getD j 0 ∈ zs := by
    rw [List.getD_eq_getElem?_getD, List.getElem?_eq_getElem hjl];exact List.getElem_mem hjl
   have hw := h5 _ hm;generalize zs.getD j 0 = z at hw ⊢;simp [Lit.wf] at hw;have e1 : IntKind.i64.min = -9223372036854775808 := by rfl
   have e2 : IntKind.i64.max = 9223372036854775807 := by rfl
   omega
  ·have hc := h4 j hjl
   have hlt : (x.add j).block < w.heap.size := by
    unfold World.cell? at hc
    cases hq : w.heap[(x.add j).block]? with
    | none => rw [hq] at hc; simp at hc
    | some b => exact (Array.getElem?_eq_some_iff.1 hq).1
   exact (hb.cell hlt).trans hc
theorem leaseClock_law (a : Option Addr) (len cap : Nat) (zs : List Int) (w : World) (hk : IsInts .i64 w a len cap zs) :
  Calls Tryz.prog 3 #[.slice a len cap] w fun e w' => e = .returned (.bool true) ∧ Below w.heap.size w w' := by
 have CELLS := Hd (i64_cell hk)
 have hlenL : (len : Int) ≤ 9223372036854775807 := by
  rcases hk with ⟨_, rfl, _, _⟩ | ⟨_, _, h1, h2, _⟩
  ·decide
  ·unfold maxLen at h2; omega
 clear hk;go_enter Tryz.func3, Tryz.ntmps3;try simp only [List.append_eq, List.cons_append, List.nil_append]
 go_wp2_with fail;refine (examples_yes16 _).mono ?_;rintro e w1 ⟨rfl, b1⟩;have B1 := Hd b1;clear b1;go_wp2_with fail;refine (made16_is _).mono ?_;rintro e w2 ⟨t, d, s, rfl, h1⟩;have sn := ptr_nilT ⟨t, 0, none⟩;have HT0 := Hd h1;clear h1;go_wp2_with fail
 go_loopw [5, 6] (fun nw i wr => ∃ (j : Nat) (E : List Ent) (now : Int), j ≤ len ∧ j ≤ 20 ∧ i = .int .i64 (j : Int) ∧ nw = .int .i64 now ∧ Hid (ClkE E now ∧ E.length ≤ j) ∧ Hid (TxS w1 [] wr t d s 640 E)) (fun _ i _ => 21 - (intOf i).toNat)
 case atStart => exact ⟨0, [], 0, Nat.zero_le _, Nat.zero_le _, rfl, rfl, Hd ⟨.inl ⟨by decide, rfl⟩, Nat.le_refl _⟩, HT0⟩
 case round =>
  obtain ⟨j, E, now, hj1, hj2, rfl, rfl, HC, HT⟩ := hrel
  by_cases hjl : j < len
  ·have hjli : (j : Int) < (len : Int) := by omega
   by_cases hlt : j < 20
   ·have hli : (j : Int) < 20 := by omega
    obtain ⟨x, z, hax, hzv, hz, CELL⟩ := CELLS.out j hjl;subst hax;have e4 : IntKind.i64.wrap ((j : Int) + 1) = ((j + 1 : Nat) : Int) := by rw [show (j : Int) + 1 = ((j + 1 : Nat) : Int) by omega]; exact IntWalk.i64_in _ (by omega)
    have HJL : Hid (j + 1 ≤ len ∧ j + 1 ≤ 20) := Hd ⟨by omega, by omega⟩;have HLN : Hid (E.length ≤ 20) := Hd (by have := HC.out.2; omega);have ca := CELL.out wr (chain B1.out HT.out.from);have hr := HC.out.1.range;have hw : IntKind.i64.wrap (268435455 - now) = 268435455 - now := IntWalk.i64_in _ (by omega);clear hj1 hj2 hjl hlt hzv
    by_cases hz0 : z < 0
    ·have hz1 : ¬ 0 ≤ z := by omega
     have TK := Hd (tick_neg (now := now) (m := 0) HT.out (by have := HLN.out; omega) HC.out.1 hz0);clear hr hz;go_wp2_with fail;refine TK.out.mono ?_;rintro e w3 ⟨rfl, h1, _⟩;have ca3 := CELL.out w3 (chain B1.out h1.from);have CK : Hid (ClkE (E) now ∧ (E).length ≤ j + 1) := Hd ⟨HC.out.1, by have := HC.out.2; omega⟩;have CL := Hd (clock_is h1 (by have := CK.out.2; have := HJL.out; omega) CK.out.1);clear h1 ca TK HT HC;go_wp2_with fail;refine CL.out.mono ?_;rintro e w4 ⟨rfl, h1, _⟩;have ca4 := CELL.out w4 (chain B1.out h1.from);have T4 := Hd h1;clear h1 ca3 CL;go_wp2_with fail;go_roundw
     case rel => exact ⟨j + 1, _, _, HJL.out.1, HJL.out.2, rfl, rfl, CK, T4⟩
     case measure => have := HJL.out; simp [intOf]; omega
    ·have hz1 : 0 ≤ z := by omega
     by_cases hzf : 268435455 - now < z
     ·have hz2 : ¬ z ≤ 268435455 - now := by omega
      have TK := Hd (tick_far (m := 0) HT.out (by have := HLN.out; omega) HC.out.1 hz1 hzf);clear hr hz;go_wp2_with fail;refine TK.out.mono ?_;rintro e w3 ⟨rfl, h1, _⟩;have ca3 := CELL.out w3 (chain B1.out h1.from);have CK : Hid (ClkE (E) now ∧ (E).length ≤ j + 1) := Hd ⟨HC.out.1, by have := HC.out.2; omega⟩;have CL := Hd (clock_is h1 (by have := CK.out.2; have := HJL.out; omega) CK.out.1);clear h1 ca TK HT HC;go_wp2_with fail;refine CL.out.mono ?_;rintro e w4 ⟨rfl, h1, _⟩;have ca4 := CELL.out w4 (chain B1.out h1.from);have T4 := Hd h1;clear h1 ca3 CL;go_wp2_with fail;go_roundw
      case rel => exact ⟨j + 1, _, _, HJL.out.1, HJL.out.2, rfl, rfl, CK, T4⟩
      case measure => have := HJL.out; simp [intOf]; omega
     ·have hz2 : z ≤ 268435455 - now := by omega
      obtain ⟨m, hm⟩ : ∃ m, now + z = m := ⟨_, rfl⟩
      have hw2 : IntKind.i64.wrap (now + z) = m := by rw [hm]; exact IntWalk.i64_in _ (by omega)
      have HM : Hid (0 ≤ m ∧ m ≤ 268435455) := Hd (by omega);have TK := Hd (tick_yes HT.out (by have := HLN.out; omega) HC.out.1 hz1 hz2 hm);clear hr hz hm;go_wp2_with fail;refine TK.out.mono ?_;rintro e w3 ⟨rfl, h1, _⟩;have ca3 := CELL.out w3 (chain B1.out h1.from);have CK : Hid (ClkE (insE 10376293541461622788 (Str (putL m 4)) E) m ∧ (insE 10376293541461622788 (Str (putL m 4)) E).length ≤ j + 1) := Hd ⟨ClkE.ins E HM.out.1 HM.out.2, by have := insE_len 10376293541461622788 (Str (putL m 4)) E; have := HC.out.2; omega⟩
      have CL := Hd (clock_is h1 (by have := CK.out.2; have := HJL.out; omega) CK.out.1);clear h1 ca TK HT HC;go_wp2_with fail;refine CL.out.mono ?_;rintro e w4 ⟨rfl, h1, _⟩;have ca4 := CELL.out w4 (chain B1.out h1.from);have T4 := Hd h1;clear h1 ca3 CL;go_wp2_with fail;go_roundw
      case rel => exact ⟨j + 1, _, _, HJL.out.1, HJL.out.2, rfl, rfl, CK, T4⟩
      case measure => have := HJL.out; simp [intOf]; omega
   ·have hli : ¬ (j : Int) < 20 := by omega
    have FIN := Hd HT.out.from;clear hlt hjl HT HC;go_wp2_with fail;go_ret;exact ⟨rfl, chain B1.out FIN.out⟩
  ·have hjli : ¬ (j : Int) < (len : Int) := by omega
   have FIN := Hd HT.out.from;clear hjl HT HC;go_wp2_with fail;go_ret;exact ⟨rfl, chain B1.out FIN.out⟩
end Go.Proofs.YthcejfnngkmojaaGreatDoor
