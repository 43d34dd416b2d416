/-
  DiskPlays: what does says: Sync, Fuse, Crash, Read.
-/
import Derived.Test.YteaiiiikehimgaaPlaysD
namespace Go.Proofs.Yteaiiiikehimgaa
open Go.RowKit
set_option linter.unusedVariables false
set_option linter.unusedSimpArgs false
theorem PairR.alloc {w0 w : World} {R : Nat → Prop} {d x : Nat} {st sx : DkS} (h : PairR w0 w R d x st sx) (o : Obj) : PairR w0 (w.alloc o) (fun k => R k ∨ k = w.heap.size) d x st sx := by
  obtain ⟨FX, h1, h2, h3, h4⟩ := h
  have hb : Below w.heap.size w (w.alloc o) := (Below.refl _ _).alloc (Nat.le_refl _) _
  refine ⟨FX, h1.kept fun k hk => hb.block k (h1.lt k hk), h2.turn (G := fun _ => False) (Frm.of_below hb) (fun _ hx => hx.elim) (fun k hk => ?_), h3, fun k hk hx => ?_⟩
  · rcases hk with hk | hk | rfl
    · exact .inl (.inl hk)
    · exact .inl (.inr hk)
    · exact .inr ⟨Nat.le_refl _, by simp⟩
  · rcases hk with hk | rfl
    · exact h4 k hk hx
    · have := h1.lt _ hx; omega
theorem PairR.weak {w0 w : World} {R R' : Nat → Prop} {d x : Nat} {st sx : DkS} (h : PairR w0 w R d x st sx) (hR : ∀ k, R' k → R k) : PairR w0 w R' d x st sx := by
  obtain ⟨FX, h1, h2, h3, h4⟩ := h
  refine ⟨FX, h1, ?_, h3, fun k hk => h4 k (hR k hk)⟩
  obtain ⟨F, k1, k2, k3, k4⟩ := h2
  exact ⟨F, k1, k2, k3, fun k hk => k4 k (hk.imp id (hR k))⟩
/-- A deed that came in, boxed. -/
def deedC (kd at_ : Int) (s : ByteArray) (n : Int) (ka : Option Addr) (klen kcap : Nat) : Array Value := #[.int .i64 kd, .int .i64 at_, .string s, .int .i64 n, .slice ka klen kcap]
structure Deeds (w0 w wr : World) (R : Nat → Prop) (b d x : Nat) (st sx : DkS) (c : Array Value) : Prop where
  pr : PairR w0 wr (fun k => R k ∨ k = b) d x st sx
  kr : KeptR R w wr
  bx : wr.heap[b]? = some (.cells c 31 (0, 0))
theorem Deeds.on {w0 w wr w' : World} {R : Nat → Prop} {b d x : Nat} {st sx st' sx' : DkS} {c : Array Value} (h : Deeds w0 w wr R b d x st sx c) (hp : PairR w0 w' (fun k => R k ∨ k = b) d x st' sx' ∧ KeptR (fun k => R k ∨ k = b) wr w') : Deeds w0 w w' R b d x st' sx' c :=
  ⟨hp.1, h.kr.trans fun k hk => hp.2 k (.inl hk), (hp.2 b (.inr rfl)).trans h.bx⟩
theorem Deeds.first {w0 w : World} {R : Nat → Prop} {d x : Nat} {st sx : DkS} (h : PairR w0 w R d x st sx) (c : Array Value) : Deeds w0 w (w.alloc (.cells c 31)) R w.heap.size d x st sx c := by
  refine ⟨h.alloc _, fun k hk => Below.heap_alloc _ _ _ ?_, heap_alloc_new _ _⟩
  obtain ⟨FX, h1, ⟨F, k1, k2, k3, k4⟩, h3, h4⟩ := h
  exact (k4 k (.inr hk)).2
/-- What a deed leaves. -/
def Done (w0 w : World) (R : Nat → Prop) (d x : Nat) (e : Ending) (w' : World) : Prop := ∃ st sx, e = .returned (.bool true) ∧ PairR w0 w' R d x st sx ∧ SameS st sx ∧ KeptR R w w'
theorem Deeds.done {w0 w wr : World} {R : Nat → Prop} {b d x : Nat} {st sx : DkS} {c : Array Value} (h : Deeds w0 w wr R b d x st sx c) (hs : SameS st sx) : Done w0 w R d x (.returned (.bool true)) wr :=
  ⟨st, sx, rfl, h.pr.weak fun k hk => .inl hk, hs, h.kr⟩
theorem Deeds.cells {w0 w wr : World} {R : Nat → Prop} {b d x : Nat} {st sx : DkS} {kd at_ : Int} {s : ByteArray} {n : Int} {ka : Option Addr} {klen kcap : Nat} (h : Deeds w0 w wr R b d x st sx (deedC kd at_ s n ka klen kcap)) :
    wr.cell? ⟨b, 0, none⟩ = some (.int .i64 kd) ∧ wr.cell? ⟨b, 1, none⟩ = some (.int .i64 at_) ∧ wr.cell? ⟨b, 2, none⟩ = some (.string s) ∧ wr.cell? ⟨b, 3, none⟩ = some (.int .i64 n) ∧ wr.cell? ⟨b, 4, none⟩ = some (.slice ka klen kcap) := by
  refine ⟨?_, ?_, ?_, ?_, ?_⟩ <;> (rw [cell_of_row wr b _ _ _ _ h.bx]; rfl)
set_option maxHeartbeats 3200000 in
set_option maxRecDepth 20000 in
theorem does_sync {w0 w : World} {R : Nat → Prop} {d x : Nat} {st sx : DkS} (h : PairR w0 w R d x st sx) (hs : SameS st sx) (kd at_ : Int) (s : ByteArray) (n : Int) (ka : Option Addr) (klen kcap : Nat) (r0 : -9223372036854775808 ≤ kd) (r1 : kd ≤ 9223372036854775807)
    (hf : (kd < 0 ∧ -((kd + 1).tmod 7) = 3) ∨ (0 ≤ kd ∧ kd % 7 = 3)) :
    Calls Try.prog 10 #[.pointer (some ⟨d, 0, none⟩), .pointer (some ⟨x, 0, none⟩), .agg (deedC kd at_ s n ka klen kcap)] w (Done w0 w R d x) := by
  have D0 := Deeds.first h (deedC kd at_ s n ka klen kcap)
  obtain ⟨b, hb⟩ : ∃ b, w.heap.size = b := ⟨_, rfl⟩
  obtain ⟨w1, hw1⟩ : ∃ w1, w.alloc (.cells (deedC kd at_ s n ka klen kcap) 31) = w1 := ⟨_, rfl⟩
  rw [hw1, hb] at D0
  obtain ⟨c0, c1, c2, c3, c4⟩ := D0.cells
  have HD := Lib.hid D0
  have HS := Lib.hid hs
  clear D0 h hs
  unfold deedC at hw1 ⊢
  rcases hf with ⟨ha, hr⟩ | ⟨ha, hr⟩
  all_goals
    go_enter Try.func10, Try.ntmps10
    try simp only [List.append_eq, List.cons_append, List.nil_append]
    go_wp2_with fail
    refine HD.out.pr.dsync.mono ?_
    rintro e w2 ⟨rfl, h2⟩
    have HD2 := Lib.hid (HD.out.on h2)
    clear h2
    go_wp2_with fail
    refine HD2.out.pr.xsync.mono ?_
    rw [(same_sync HS.out).1]
    rintro e w3 ⟨rfl, h3⟩
    have HD3 := Lib.hid (HD2.out.on h3)
    have FIN := Lib.hid (HD3.out.done (same_sync HS.out).2)
    clear h3
    go_wp2_with fail
    go_ret
    exact FIN.out
set_option maxHeartbeats 3200000 in
set_option maxRecDepth 20000 in
theorem does_fuse {w0 w : World} {R : Nat → Prop} {d x : Nat} {st sx : DkS} (h : PairR w0 w R d x st sx) (hs : SameS st sx) (kd at_ : Int) (s : ByteArray) (n : Int) (ka : Option Addr) (klen kcap : Nat) (r0 : -9223372036854775808 ≤ kd) (r1 : kd ≤ 9223372036854775807)
    (hf : (kd < 0 ∧ -((kd + 1).tmod 7) = 4) ∨ (0 ≤ kd ∧ kd % 7 = 4)) (n0 : -9223372036854775808 ≤ n) (n1 : n ≤ 9223372036854775807) :
    Calls Try.prog 10 #[.pointer (some ⟨d, 0, none⟩), .pointer (some ⟨x, 0, none⟩), .agg (deedC kd at_ s n ka klen kcap)] w (Done w0 w R d x) := by
  have D0 := Deeds.first h (deedC kd at_ s n ka klen kcap)
  obtain ⟨b, hb⟩ : ∃ b, w.heap.size = b := ⟨_, rfl⟩
  obtain ⟨w1, hw1⟩ : ∃ w1, w.alloc (.cells (deedC kd at_ s n ka klen kcap) 31) = w1 := ⟨_, rfl⟩
  rw [hw1, hb] at D0
  obtain ⟨c0, c1, c2, c3, c4⟩ := D0.cells
  have HD := Lib.hid D0
  have HS := Lib.hid hs
  obtain ⟨v, hv⟩ : ∃ v, (n < -1 ∧ v = -1) ∨ (-1 ≤ n ∧ v = n) := by
    by_cases hn : n < -1
    · exact ⟨-1, .inl ⟨hn, rfl⟩⟩
    · exact ⟨n, .inr ⟨by omega, rfl⟩⟩
  clear D0 h hs
  unfold deedC at hw1 ⊢
  rcases hf with ⟨ha, hr⟩ | ⟨ha, hr⟩
  all_goals
    go_enter Try.func10, Try.ntmps10
    try simp only [List.append_eq, List.cons_append, List.nil_append]
    go_wp2_with fail
    refine (HD.out.pr.dfuse n v hv n1).mono ?_
    rintro e w2 ⟨rfl, h2⟩
    have HD2 := Lib.hid (HD.out.on h2)
    obtain ⟨_, _, _, k3, _⟩ := HD2.out.cells
    obtain ⟨_, _, _, _, _, _, x2, xf, _⟩ := HD2.out.pr.xcells
    have FIN := Lib.hid ((HD2.out.on (HD2.out.pr.xfuse n n0 n1)).done (same_fuse HS.out n v hv))
    clear h2
    go_wp2_with fail
    go_ret
    exact FIN.out
set_option maxHeartbeats 3200000 in
set_option maxRecDepth 20000 in
theorem does_crash {w0 w : World} {R : Nat → Prop} {d x : Nat} {st sx : DkS} (h : PairR w0 w R d x st sx) (hs : SameS st sx) (kd at_ : Int) (s : ByteArray) (n : Int) (ka : Option Addr) (klen kcap : Nat) (r0 : -9223372036854775808 ≤ kd) (r1 : kd ≤ 9223372036854775807)
    (hf : (kd < 0 ∧ -((kd + 1).tmod 7) = 5) ∨ (0 ≤ kd ∧ kd % 7 = 5)) (zs : List Int) (hk : IsInts .i64 w0 ka klen kcap zs) :
    Calls Try.prog 10 #[.pointer (some ⟨d, 0, none⟩), .pointer (some ⟨x, 0, none⟩), .agg (deedC kd at_ s n ka klen kcap)] w (Done w0 w R d x) := by
  have D0 := Deeds.first h (deedC kd at_ s n ka klen kcap)
  obtain ⟨b, hb⟩ : ∃ b, w.heap.size = b := ⟨_, rfl⟩
  obtain ⟨w1, hw1⟩ : ∃ w1, w.alloc (.cells (deedC kd at_ s n ka klen kcap) 31) = w1 := ⟨_, rfl⟩
  rw [hw1, hb] at D0
  obtain ⟨c0, c1, c2, c3, c4⟩ := D0.cells
  have HD := Lib.hid D0
  have HS := Lib.hid hs
  have HK := Lib.hid hk
  clear hk
  clear D0 h hs
  unfold deedC at hw1 ⊢
  rcases hf with ⟨ha, hr⟩ | ⟨ha, hr⟩
  all_goals
    go_enter Try.func10, Try.ntmps10
    try simp only [List.append_eq, List.cons_append, List.nil_append]
    go_wp2_with fail
    refine (HD.out.pr.dcrash ka klen kcap zs HK.out).mono ?_
    rintro e w2 ⟨rfl, h2⟩
    have HD2 := Lib.hid (HD.out.on h2)
    obtain ⟨_, _, _, _, k4⟩ := HD2.out.cells
    clear h2
    go_wp2_with fail
    refine (HD2.out.pr.xcrash ka klen kcap zs HK.out).mono ?_
    rintro e w3 ⟨rfl, h3⟩
    have FIN := Lib.hid ((HD2.out.on h3).done (same_crash HS.out (zs.take klen)))
    clear h3
    go_wp2_with fail
    go_ret
    exact FIN.out
set_option maxHeartbeats 3200000 in
set_option maxRecDepth 20000 in
theorem does_read {w0 w : World} {R : Nat → Prop} {d x : Nat} {st sx : DkS} (h : PairR w0 w R d x st sx) (hs : SameS st sx) (kd at_ : Int) (s : ByteArray) (n : Int) (ka : Option Addr) (klen kcap : Nat) (r0 : -9223372036854775808 ≤ kd) (r1 : kd ≤ 9223372036854775807)
    (hf : (kd < 0 ∧ -((kd + 1).tmod 7) = 6) ∨ (0 ≤ kd ∧ kd % 7 = 6)) :
    Calls Try.prog 10 #[.pointer (some ⟨d, 0, none⟩), .pointer (some ⟨x, 0, none⟩), .agg (deedC kd at_ s n ka klen kcap)] w (Done w0 w R d x) := by
  have D0 := Deeds.first h (deedC kd at_ s n ka klen kcap)
  obtain ⟨b, hb⟩ : ∃ b, w.heap.size = b := ⟨_, rfl⟩
  obtain ⟨w1, hw1⟩ : ∃ w1, w.alloc (.cells (deedC kd at_ s n ka klen kcap) 31) = w1 := ⟨_, rfl⟩
  rw [hw1, hb] at D0
  obtain ⟨c0, c1, c2, c3, c4⟩ := D0.cells
  have HD := Lib.hid D0
  have HS := Lib.hid hs
  clear D0 h hs
  unfold deedC at hw1 ⊢
  rcases hf with ⟨ha, hr⟩ | ⟨ha, hr⟩
  all_goals
    go_enter Try.func10, Try.ntmps10
    try simp only [List.append_eq, List.cons_append, List.nil_append]
    go_wp2_with fail
    refine (HD.out.pr.dread at_).mono ?_
    rintro e w2 ⟨rfl, rfl⟩
    go_wp2_with fail
    refine (HD.out.pr.xread at_).mono ?_
    rw [same_read HS.out]
    rintro e w3 ⟨rfl, rfl⟩
    have FIN := Lib.hid (HD.out.done HS.out)
    generalize Str (st.read at_).1 = X
    generalize (st.read at_).2 = E
    go_wp2_with fail
    go_ret
    exact FIN.out
end Go.Proofs.Yteaiiiikehimgaa
