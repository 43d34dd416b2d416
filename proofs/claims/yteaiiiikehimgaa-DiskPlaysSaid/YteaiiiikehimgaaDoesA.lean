/-
  DiskPlays: does, whatever the deed; disks.
-/
import Derived.Test.YteaiiiikehimgaaDoesW
import Derived.Test.YteaiiiikehimgaaDiskFuseLaw
namespace Go.Proofs.Yteaiiiikehimgaa
open Go.RowKit
set_option linter.unusedVariables false
set_option linter.unusedSimpArgs false
theorem does_any {w0 w : World} {R : Nat → Prop} {d x : Nat} {st sx : DkS} (h : PairR w0 w R d x st sx) (hs : SameS st sx) (kd at_ : Int) (s : ByteArray) (n : Int) (ka : Option Addr) (klen kcap : Nat) (zs : List Int) (r0 : -9223372036854775808 ≤ kd) (r1 : kd ≤ 9223372036854775807)
    (hsz : s.size ≤ 9223372036854775807) (n0 : -9223372036854775808 ≤ n) (n1 : n ≤ 9223372036854775807) (hk : IsInts .i64 w0 ka klen kcap zs) :
    Calls Try.prog 10 #[.pointer (some ⟨d, 0, none⟩), .pointer (some ⟨x, 0, none⟩), .agg (deedC kd at_ s n ka klen kcap)] w (Done w0 w R d x) := by
  obtain ⟨f, hf, hf2⟩ := norm_mod kd 7 (by decide)
  match f, hf, hf2 with
  | 0, _, hf2 => exact does_fill0 h hs kd at_ s n ka klen kcap r0 r1 hf2 hsz
  | 1, _, hf2 => exact does_fill1 h hs kd at_ s n ka klen kcap r0 r1 hf2 hsz
  | 2, _, hf2 => exact does_raw h hs kd at_ s n ka klen kcap r0 r1 hf2
  | 3, _, hf2 => exact does_sync h hs kd at_ s n ka klen kcap r0 r1 hf2
  | 4, _, hf2 => exact does_fuse h hs kd at_ s n ka klen kcap r0 r1 hf2 n0 n1
  | 5, _, hf2 => exact does_crash h hs kd at_ s n ka klen kcap r0 r1 hf2 zs hk
  | 6, _, hf2 => exact does_read h hs kd at_ s n ka klen kcap r0 r1 hf2
  | f + 7, hf, _ => omega
theorem PairR.made {w0 w w2 w3 : World} {st : DkS} {e e2 : Ending} (hw : Below w0.heap.size w0 w) (h : Made w st e w2) (h2 : RMade w2 st e2 w3) : ∃ d x, e = .returned (.tuple #[.pointer (some ⟨d, 0, none⟩), .int .i64 0]) ∧ e2 = .returned (.pointer (some ⟨x, 0, none⟩)) ∧ PairR w0 w3 (fun _ => False) d x st st := by
  obtain ⟨d, F, he, hd, hb, hF⟩ := h
  obtain ⟨x, FX, he2, hx, hb2, hFX⟩ := h2
  have hw2 := hw.size
  have hs := hb.size
  refine ⟨d, x, he, he2, FX, hx, ⟨F, hd.below hb2, chain (chain hw hb) hb2, fun k hk => by have := hF k hk; omega, fun k hk => ⟨fun hFk => ?_, ?_⟩⟩, fun k hk => by have := hFX k hk; omega, fun _ hk => hk.elim⟩
  · rcases hk with hk | hk
    · have h1 := hFX k hk
      have h2 := hd.lt k hFk
      omega
    · exact hk
  · rcases hk with hk | hk
    · exact hx.lt k hk
    · exact hk.elim
/-- What disks hands out. -/
def Two (w0 : World) (st : DkS) (e : Ending) (w' : World) : Prop := ∃ d x, e = .returned (.tuple #[.pointer (some ⟨d, 0, none⟩), .pointer (some ⟨x, 0, none⟩), .bool true]) ∧ PairR w0 w' (fun _ => False) d x st st
theorem ptr_not (a : Addr) (w : World) : (binOp .neq 24 (.pointer (some a)) (.pointer none)).run Try.prog w = .ok (.bool true) w := by kernel_rfl
set_option maxHeartbeats 1600000 in
theorem disks_yes {w0 w : World} (hw : Below w0.heap.size w0 w) (n : Nat) (h8 : 8 ≤ n) (hn : n ≤ 640) :
    Calls Try.prog 9 #[.int .i64 (n : Int)] w (Two w0 (DkS.fresh n)) := by
  have NY := Lib.hid fun w => new_yes w n h8 hn
  have RY := Lib.hid fun w => refNew_yes w n h8 hn
  generalize DkS.fresh n = st at NY RY ⊢
  have HW := Lib.hid hw
  clear hw
  go_enter Try.func9, Try.ntmps9
  go_wp2_with fail
  refine (NY.out _).mono ?_
  intro e w2 hmade
  obtain ⟨d, Fd, rfl, hm1, hm2, hm3⟩ := hmade
  have HM : Hid (Made w st (.returned (.tuple #[.pointer (some ⟨d, 0, none⟩), .int .i64 0])) w2) := Lib.hid ⟨d, Fd, rfl, hm1, hm2, hm3⟩
  clear hm1 hm2 hm3
  go_wp2_with fail
  refine (RY.out _).mono ?_
  intro e w3 hr
  obtain ⟨d', x, hd', rfl, hp⟩ := PairR.made HW.out HM.out hr
  obtain rfl : d = d' := by
    injection hd' with h1
    injection h1 with h1
    have h2 := congrArg (fun a : Array Value => a[0]?) h1
    simpa using h2
  have pn := ptr_not ⟨d, 0, none⟩
  have FIN : Hid (Two w0 st (.returned (.tuple #[.pointer (some ⟨d, 0, none⟩), .pointer (some ⟨x, 0, none⟩), .bool true])) w3) := Lib.hid ⟨d, x, rfl, hp⟩
  clear hp hr hd' HM
  go_wp2_with fail
  go_ret3
  exact FIN.out
set_option maxHeartbeats 400000 in
theorem refNew_no (w : World) (n : Int) (h : n < 8 ∨ 640 < n) :
    Calls Try.prog 22 #[.int .i64 n] w fun e w' => e = .returned (.pointer none) ∧ w = w' := by
  by_cases h8 : n < 8
  · clear h
    go_enter Try.func22, Try.ntmps22
    go_wp2_with fail
    go_ret
    exact ⟨rfl, rfl⟩
  · have h9 : 640 < n := by omega
    clear h
    go_enter Try.func22, Try.ntmps22
    go_wp2_with fail
    go_ret
    exact ⟨rfl, rfl⟩
theorem nil_not (w : World) : (binOp .neq 24 (.pointer none) (.pointer none)).run Try.prog w = .ok (.bool false) w := by kernel_rfl
set_option maxHeartbeats 400000 in
theorem disks_no (w : World) (n : Int) (h : n < 8 ∨ 640 < n) :
    Calls Try.prog 9 #[.int .i64 n] w fun e w' => e = .returned (.tuple #[.pointer none, .pointer none, .bool false]) ∧ w = w' := by
  have NN := Lib.hid fun w => new_no w n h
  have RN := Lib.hid fun w => refNew_no w n h
  clear h
  go_enter Try.func9, Try.ntmps9
  go_wp2_with fail
  refine (NN.out _).mono ?_
  rintro e w2 ⟨rfl, rfl⟩
  go_wp2_with fail
  refine (RN.out _).mono ?_
  rintro e w3 ⟨rfl, rfl⟩
  have pn := nil_not
  go_wp2_with fail
  go_ret3
  exact ⟨rfl, rfl⟩
end Go.Proofs.Yteaiiiikehimgaa
