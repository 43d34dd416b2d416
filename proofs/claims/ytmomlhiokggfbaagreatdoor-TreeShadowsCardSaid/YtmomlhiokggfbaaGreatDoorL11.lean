/-
 BitsWith0.
-/
import Derived.Test.YtmomlhiokggfbaaGreatDoorL06
import Derived.BigRegion
namespace Go.Proofs.YtmomlhiokggfbaaGreatDoor
open Go.RowKit
set_option maxRecDepth 20000
set_option maxHeartbeats 12800000
set_option linter.unusedVariables false
set_option linter.unusedSimpArgs false
def clr (c k : Nat) : Nat := c ^^^ (c &&& 2 ^ k)
def setb (c k : Nat) (on : Bool) : Nat := if on then c ||| 2 ^ k else clr c k
theorem setb_lt : ∀ (c : Fin 256) (k : Fin 8) (on : Bool), setb c.val k.val on < 256 := by decide +kernel
theorem clr_and : ∀ (c : Fin 256) (k : Fin 8), bits .andNot .u8 (c.val : Int) (2 ^ k.val) = (clr c.val k.val : Int) := by decide +kernel
theorem clr_or : ∀ (c : Fin 256) (k : Fin 8), bits .or .u8 (clr c.val k.val : Int) (2 ^ k.val) = ((c.val ||| 2 ^ k.val : Nat) : Int) := by decide +kernel
theorem mask_wrap : ∀ k : Fin 8, IntKind.u8.wrap (2 ^ k.val) = 2 ^ k.val := by decide
def withL (l : List UInt8) (i : Nat) (on : Bool) : List UInt8 := if h : i / 8 < l.length then l.set (i / 8) (UInt8.ofNat (setb (l[i / 8]).toNat (i % 8) on)) else l
def withB (b : ByteArray) (i : Int) (on : Bool) : ByteArray := if roomB b i then Str (withL b.data.toList i.toNat on) else b
theorem Buf.opened (w : World) (b : ByteArray) : ∃ cap w2 g, (convert 9 62 (.string b)).run Tryz.prog w = .ok (.slice (some ⟨g, 0, none⟩) b.size cap) w2 ∧ Buf w2 g b.data.toList ∧ Below w.heap.size w w2 ∧ w.heap.size ≤ g :=
 ⟨_, _, _, run_bytes_of_string (P := Tryz.prog) w 9 62 5 b Tryz.underlying9 Tryz.underlying62 Tryz.underlying5, Buf.made w b _, (Br.drew).alloc (Nat.le_refl _) _, Nat.le_refl _⟩
theorem with_no (b : ByteArray) (i : Int) (on : Bool) (w : World) (hi : i < 9223372036854775808) (hr : Hid (roomB b i = false)) :
  Calls Tryz.prog 96 #[.string b, .int .i64 i, .bool on] w fun e w' => e = .returned (.string b) ∧ w = w' := by
 go_enter Tryz.func96, Tryz.ntmps96;go_wp2_with fail;refine (room_any _ _ _ hi).mono ?_;rw [hr.out];rintro e w1 ⟨rfl, rfl⟩;go_wp2_with fail;go_ret;exact ⟨rfl, rfl⟩
theorem Buf.stored {w : World} {g : Nat} {l : List UInt8} (h : Buf w g l) (i x : Nat) (hi : i < l.length) (hx : x < 256) (len cap : Nat) (hlen : l.length = len) :
  Buf (w.setCell ⟨g, i, none⟩ (.int .u8 (x : Int))) g (l.set i (UInt8.ofNat x)) ∧
  (convert 62 9 (.slice (some ⟨g, 0, none⟩) len cap)).run Tryz.prog (w.setCell ⟨g, i, none⟩ (.int .u8 (x : Int))) = .ok (.string (Str (l.set i (UInt8.ofNat x)))) (w.setCell ⟨g, i, none⟩ (.int .u8 (x : Int))) := by
 have e : ((UInt8.ofNat x).toNat : Int) = (x : Int) := by
  rw [UInt8.toNat_ofNat', Nat.mod_eq_of_lt hx]
 have hb := h.set i hi (UInt8.ofNat x);rw [e] at hb;have hc := hb.conv cap;rw [List.length_set, hlen] at hc;exact ⟨hb, hc⟩
theorem withB_yes (b : ByteArray) (n : Nat) (on : Bool) (hr : roomB b (n : Int) = true) (h : n / 8 < b.data.toList.length) :
  withB b (n : Int) on = Str (b.data.toList.set (n / 8) (UInt8.ofNat (setb (b.data.toList[n / 8]).toNat (n % 8) on))) := by
 unfold withB withL;rw [hr, Int.toNat_natCast, dif_pos h]
 rfl
theorem with_yes (b : ByteArray) (n : Nat) (on : Bool) (w : World) (hi : n < 9223372036854775808) (hr : Hid (roomB b (n : Int) = true)) (hn : n / 8 < b.size) :
  Calls Tryz.prog 96 #[.string b, .int .i64 (n : Int), .bool on] w fun e w' => e = .returned (.string (withB b (n : Int) on)) ∧ Below w.heap.size w w' := by
 obtain ⟨cap, w2, g, hbs, hB, hW, hg⟩ := Buf.opened w b;have hl : n / 8 < b.data.toList.length := by simpa using hn
 rw [withB_yes b n on hr.out hl];have hc := hB.cell (n / 8) hl;have hf := hB.free (n / 8) hl;have hlt := UInt8.toNat_lt (b.data.toList[n / 8]);have hk : n % 8 < 8 := by omega
 generalize (b.data.toList[n / 8]).toNat = c at hc hlt ⊢;have hA := clr_and ⟨c, hlt⟩ ⟨n % 8, hk⟩;have hO := clr_or ⟨c, hlt⟩ ⟨n % 8, hk⟩;have hx := setb_lt ⟨c, hlt⟩ ⟨n % 8, hk⟩ false;have hy := setb_lt ⟨c, hlt⟩ ⟨n % 8, hk⟩ true
 have hm : (2 : Int) ^ (n % 8) % 256 = 2 ^ (n % 8) := by
  have := mask_wrap ⟨n % 8, hk⟩;rwa [IntKind.wrap_u8] at this
 simp only [setb, if_true, Bool.false_eq_true, if_false] at hA hO hx hy;have hr2 : ∀ on, setb c (n % 8) on = if on = true then c ||| 2 ^ (n % 8) else clr c (n % 8) := fun _ => rfl
 rw [hr2];generalize clr c (n % 8) = x at *;generalize c ||| 2 ^ (n % 8) = y at *
 rw [← hm] at hA hO;clear hm;obtain ⟨hb1, hcv1⟩ := hB.stored (n / 8) x hl hx b.size cap (by simp);obtain ⟨hb2, hcv2⟩ := hb1.stored (n / 8) y (by simpa using hl) hy b.size cap (by simp);rw [List.set_set] at hcv2;clear hB hb1 hb2 hr2;have hn' : (n : Int) / 8 < (b.size : Int) := by omega
 cases on
 ·go_enter Tryz.func96, Tryz.ntmps96
  go_wp2_with fail;refine (room_any _ _ _ (by omega)).mono ?_;rw [hr.out];rintro e w1 ⟨rfl, rfl⟩;go_wp2_with fail;go_ret;exact ⟨rfl, hW.setCell hg _⟩
 ·go_enter Tryz.func96, Tryz.ntmps96
  go_wp2_with fail;refine (room_any _ _ _ (by omega)).mono ?_;rw [hr.out];rintro e w1 ⟨rfl, rfl⟩;go_wp2_with fail;go_ret;exact ⟨rfl, (hW.setCell hg _).setCell hg _⟩
theorem with_any (b : ByteArray) (i : Int) (on : Bool) (w : World) (hi : i < 9223372036854775808) :
  Calls Tryz.prog 96 #[.string b, .int .i64 i, .bool on] w fun e w' => e = .returned (.string (withB b i on)) ∧ Below w.heap.size w w' := by
 by_cases h : 0 ≤ i ∧ i < 8 * (b.size : Int)
 ·obtain ⟨n, rfl⟩ := Int.eq_ofNat_of_zero_le h.1
  exact with_yes b n on w (by omega) (Hd (by unfold roomB; exact decide_eq_true h)) (by omega)
 ·have hr : roomB b i = false := by unfold roomB; exact decide_eq_false h
  refine (with_no b i on w hi (Hd hr)).mono ?_;rintro e w' ⟨rfl, rfl⟩;exact ⟨by unfold withB; rw [hr]; rfl, Br⟩
end Go.Proofs.YtmomlhiokggfbaaGreatDoor
