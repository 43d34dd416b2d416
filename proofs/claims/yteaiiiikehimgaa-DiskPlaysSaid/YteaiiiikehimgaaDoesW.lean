/-
  DiskPlays: what does says: Write.
-/
import Derived.Test.YteaiiiikehimgaaDoesD
namespace Go.Proofs.Yteaiiiikehimgaa
open Go.RowKit
set_option linter.unusedVariables false
set_option linter.unusedSimpArgs false
set_option maxHeartbeats 3200000 in
set_option maxRecDepth 20000 in
theorem does_raw {w0 w : World} {R : Nat → Prop} {d x : Nat} {st sx : DkS} (h : PairR w0 w R d x st sx) (hs : SameS st sx) (kd at_ : Int) (s : ByteArray) (n : Int) (ka : Option Addr) (klen kcap : Nat) (r0 : -9223372036854775808 ≤ kd) (r1 : kd ≤ 9223372036854775807)
    (hf : (kd < 0 ∧ -((kd + 1).tmod 7) = 2) ∨ (0 ≤ kd ∧ kd % 7 = 2)) :
    Calls Try.prog 10 #[.pointer (some ⟨d, 0, none⟩), .pointer (some ⟨x, 0, none⟩), .agg (deedC kd at_ s n ka klen kcap)] w (Done w0 w R d x) := by
  have D0 := Deeds.first h (deedC kd at_ s n ka klen kcap)
  obtain ⟨b, hb⟩ : ∃ b, w.heap.size = b := ⟨_, rfl⟩
  obtain ⟨w1, hw1⟩ : ∃ w1, w.alloc (.cells (deedC kd at_ s n ka klen kcap) 31) = w1 := ⟨_, rfl⟩
  rw [hw1, hb] at D0
  obtain ⟨c0, c1, c2, c3, c4⟩ := D0.cells
  have HD := Lib.hid D0
  have HS := Lib.hid hs
  have HDd : Hid (Deeds w0 w w1.drew R b d x st sx (deedC kd at_ s n ka klen kcap)) := Lib.hid (D0.on (D0.pr.step (Below.refl _ _).drew))
  clear D0 h hs
  unfold deedC at hw1 ⊢
  rcases hf with ⟨ha, hr⟩ | ⟨ha, hr⟩
  all_goals
    go_enter Try.func10, Try.ntmps10
    try simp only [List.append_eq, List.cons_append, List.nil_append]
    go_wp2_with fail
    go_region_held3 (fun w' => w'.cell? ⟨b, 1, none⟩ = some (.int .i64 at_) ∧ w'.cell? ⟨b, 2, none⟩ = some (.string s)) (first | exact ⟨c1, c2⟩ | exact ⟨q1, q2⟩ | exact ⟨p1, p2⟩)
      ((first | (go_at_call 13; refine (HDd.out.pr.dwrite at_ s).mono ?_; rintro e w2 ⟨rfl, h2⟩; have HD2 := Lib.hid (HDd.out.on h2); have q := HD2.out.cells; obtain ⟨_, q1, q2, _, _⟩ := q; clear h2) | (go_at_call 23; refine (HD2.out.pr.xwrite at_ s).mono ?_; rw [(same_write HS.out at_ s.data.toList).1]; rintro e w3 ⟨rfl, h3⟩; have HD3 := Lib.hid (HD2.out.on h3); have p := HD3.out.cells; obtain ⟨_, p1, p2, _, _⟩ := p; have FIN := Lib.hid (HD3.out.done (same_write HS.out at_ s.data.toList).2); clear h3)))
    go_wp2_with fail
    go_ret
    exact FIN.out
set_option maxHeartbeats 3200000 in
set_option maxRecDepth 20000 in
theorem does_fill0 {w0 w : World} {R : Nat → Prop} {d x : Nat} {st sx : DkS} (h : PairR w0 w R d x st sx) (hs : SameS st sx) (kd at_ : Int) (s : ByteArray) (n : Int) (ka : Option Addr) (klen kcap : Nat) (r0 : -9223372036854775808 ≤ kd) (r1 : kd ≤ 9223372036854775807)
    (hf : (kd < 0 ∧ -((kd + 1).tmod 7) = 0) ∨ (0 ≤ kd ∧ kd % 7 = 0)) (hsz : s.size ≤ 9223372036854775807) :
    Calls Try.prog 10 #[.pointer (some ⟨d, 0, none⟩), .pointer (some ⟨x, 0, none⟩), .agg (deedC kd at_ s n ka klen kcap)] w (Done w0 w R d x) := by
  have D0 := Deeds.first h (deedC kd at_ s n ka klen kcap)
  obtain ⟨b, hb⟩ : ∃ b, w.heap.size = b := ⟨_, rfl⟩
  obtain ⟨w1, hw1⟩ : ∃ w1, w.alloc (.cells (deedC kd at_ s n ka klen kcap) 31) = w1 := ⟨_, rfl⟩
  rw [hw1, hb] at D0
  obtain ⟨c0, c1, c2, c3, c4⟩ := D0.cells
  have HD := Lib.hid D0
  have HS := Lib.hid hs
  have HDd : Hid (Deeds w0 w w1.drew R b d x st sx (deedC kd at_ s n ka klen kcap)) := Lib.hid (D0.on (D0.pr.step (Below.refl _ _).drew))
  obtain ⟨X, HX⟩ : ∃ X, Hid (Str (fillT s.data.toList) = X) := ⟨_, Lib.hid rfl⟩
  clear D0 h hs
  unfold deedC at hw1 ⊢
  rcases hf with ⟨ha, hr⟩ | ⟨ha, hr⟩
  all_goals
    go_enter Try.func10, Try.ntmps10
    try simp only [List.append_eq, List.cons_append, List.nil_append]
    go_wp2_with fail
    go_region_held3 (fun w' => w'.cell? ⟨b, 1, none⟩ = some (.int .i64 at_) ∧ w'.cell? ⟨b, 2, none⟩ = some (.string s)) (first | exact ⟨c1, c2⟩ | exact ⟨f1, f2⟩ | exact ⟨q1, q2⟩ | exact ⟨p1, p2⟩)
      ((first | (go_at_call 14; refine (fill_is s _ hsz X HX).mono ?_; rintro e w2 ⟨rfl, b2⟩; have HF := Lib.hid (HDw.out.on (HDw.out.pr.step b2)); have f := HF.out.cells; obtain ⟨_, f1, f2, _, _⟩ := f; clear b2) | (go_at_call 14; refine (fill_is s _ hsz X HX).mono ?_; rintro e w2 ⟨rfl, b2⟩; have HF := Lib.hid (HDd.out.on (HDd.out.pr.step b2)); have f := HF.out.cells; obtain ⟨_, f1, f2, _, _⟩ := f; clear b2) | (go_at_call 13; refine (HF.out.pr.dwrite at_ X).mono ?_; rintro e w2 ⟨rfl, h2⟩; have HDw := Lib.hid (HF.out.on h2); have q := HDw.out.cells; obtain ⟨_, q1, q2, _, _⟩ := q; clear h2) | (go_at_call 23; refine (HF.out.pr.xwrite at_ X).mono ?_; rw [(same_write HS.out at_ X.data.toList).1]; rintro e w3 ⟨rfl, h3⟩; have HD3 := Lib.hid (HF.out.on h3); have p := HD3.out.cells; obtain ⟨_, p1, p2, _, _⟩ := p; have FIN := Lib.hid (HD3.out.done (same_write HS.out at_ X.data.toList).2); clear h3)))
    go_wp2_with fail
    go_ret
    exact FIN.out
set_option maxHeartbeats 3200000 in
set_option maxRecDepth 20000 in
theorem does_fill1 {w0 w : World} {R : Nat → Prop} {d x : Nat} {st sx : DkS} (h : PairR w0 w R d x st sx) (hs : SameS st sx) (kd at_ : Int) (s : ByteArray) (n : Int) (ka : Option Addr) (klen kcap : Nat) (r0 : -9223372036854775808 ≤ kd) (r1 : kd ≤ 9223372036854775807)
    (hf : (kd < 0 ∧ -((kd + 1).tmod 7) = 1) ∨ (0 ≤ kd ∧ kd % 7 = 1)) (hsz : s.size ≤ 9223372036854775807) :
    Calls Try.prog 10 #[.pointer (some ⟨d, 0, none⟩), .pointer (some ⟨x, 0, none⟩), .agg (deedC kd at_ s n ka klen kcap)] w (Done w0 w R d x) := by
  have D0 := Deeds.first h (deedC kd at_ s n ka klen kcap)
  obtain ⟨b, hb⟩ : ∃ b, w.heap.size = b := ⟨_, rfl⟩
  obtain ⟨w1, hw1⟩ : ∃ w1, w.alloc (.cells (deedC kd at_ s n ka klen kcap) 31) = w1 := ⟨_, rfl⟩
  rw [hw1, hb] at D0
  obtain ⟨c0, c1, c2, c3, c4⟩ := D0.cells
  have HD := Lib.hid D0
  have HS := Lib.hid hs
  have HDd : Hid (Deeds w0 w w1.drew R b d x st sx (deedC kd at_ s n ka klen kcap)) := Lib.hid (D0.on (D0.pr.step (Below.refl _ _).drew))
  obtain ⟨X, HX⟩ : ∃ X, Hid (Str (fillT s.data.toList) = X) := ⟨_, Lib.hid rfl⟩
  clear D0 h hs
  unfold deedC at hw1 ⊢
  rcases hf with ⟨ha, hr⟩ | ⟨ha, hr⟩
  all_goals
    go_enter Try.func10, Try.ntmps10
    try simp only [List.append_eq, List.cons_append, List.nil_append]
    go_wp2_with fail
    go_region_held3 (fun w' => w'.cell? ⟨b, 1, none⟩ = some (.int .i64 at_) ∧ w'.cell? ⟨b, 2, none⟩ = some (.string s)) (first | exact ⟨c1, c2⟩ | exact ⟨f1, f2⟩ | exact ⟨q1, q2⟩ | exact ⟨p1, p2⟩)
      ((first | (go_at_call 14; refine (fill_is s _ hsz X HX).mono ?_; rintro e w2 ⟨rfl, b2⟩; have HF := Lib.hid (HDw.out.on (HDw.out.pr.step b2)); have f := HF.out.cells; obtain ⟨_, f1, f2, _, _⟩ := f; clear b2) | (go_at_call 14; refine (fill_is s _ hsz X HX).mono ?_; rintro e w2 ⟨rfl, b2⟩; have HF := Lib.hid (HDd.out.on (HDd.out.pr.step b2)); have f := HF.out.cells; obtain ⟨_, f1, f2, _, _⟩ := f; clear b2) | (go_at_call 13; refine (HF.out.pr.dwrite at_ X).mono ?_; rintro e w2 ⟨rfl, h2⟩; have HDw := Lib.hid (HF.out.on h2); have q := HDw.out.cells; obtain ⟨_, q1, q2, _, _⟩ := q; clear h2) | (go_at_call 23; refine (HF.out.pr.xwrite at_ X).mono ?_; rw [(same_write HS.out at_ X.data.toList).1]; rintro e w3 ⟨rfl, h3⟩; have HD3 := Lib.hid (HF.out.on h3); have p := HD3.out.cells; obtain ⟨_, p1, p2, _, _⟩ := p; have FIN := Lib.hid (HD3.out.done (same_write HS.out at_ X.data.toList).2); clear h3)))
    go_wp2_with fail
    go_ret
    exact FIN.out
end Go.Proofs.Yteaiiiikehimgaa
