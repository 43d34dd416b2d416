import Derived.Test.YteaiiiikehimgaaDoesA
namespace Go.Proofs.Yteaiiiikehimgaa
open Go.RowKit
set_option linter.unusedVariables false
set_option linter.unusedSimpArgs false
/-- A slice of deeds that came in. -/
def DeedAt (w : World) (y : Addr) (j : Nat) : Prop := ∃ (kd at_ : Int) (s : ByteArray) (n : Int) (ka : Option Addr) (klen kcap : Nat) (zs : List Int),
  w.cell? (y.add (j * 5)) = some (.int .i64 kd) ∧ w.cell? ⟨(y.add (j * 5)).block, (y.add (j * 5)).off + 1, none⟩ = some (.int .i64 at_) ∧ w.cell? ⟨(y.add (j * 5)).block, (y.add (j * 5)).off + 2, none⟩ = some (.string s) ∧ w.cell? ⟨(y.add (j * 5)).block, (y.add (j * 5)).off + 3, none⟩ = some (.int .i64 n) ∧ w.cell? ⟨(y.add (j * 5)).block, (y.add (j * 5)).off + 4, none⟩ = some (.slice ka klen kcap) ∧
  (-9223372036854775808 ≤ kd ∧ kd ≤ 9223372036854775807) ∧ s.size ≤ 9223372036854775807 ∧ (-9223372036854775808 ≤ n ∧ n ≤ 9223372036854775807) ∧ IsInts .i64 w ka klen kcap zs
def IsDeeds (w : World) (a : Option Addr) (len cap : Nat) : Prop := len ≤ cap ∧ cap ≤ maxLen ∧ ∀ j, j < len → ∃ y, a = some y ∧ DeedAt w y j
set_option maxHeartbeats 6400000 in
set_option maxRecDepth 20000 in
theorem diskPlays_none (n : Int) (a : Option Addr) (len cap : Nat) (w : World) (h : n < 8 ∨ 640 < n) :
    Calls Try.prog 3 #[.int .i64 n, .slice a len cap] w fun e w' => e = .returned (.bool true) ∧ Below w.heap.size w w' := by
  have NN := Lib.hid fun w => disks_no w n h
  have pe : ∀ w, (binOp .eql 25 (.pointer none) (.pointer none)).run Try.prog w = .ok (.bool true) w := fun w => by kernel_rfl
  rcases h with h | h
  all_goals
    go_enter Try.func3, Try.ntmps3
    go_wp2_with fail
    refine (examples_any _).mono ?_
    rintro e w1 ⟨rfl, bb⟩
    have BB := Lib.hid bb
    clear bb
    go_wp2_with fail
    refine (NN.out _).mono ?_
    rintro e w2 ⟨rfl, rfl⟩
    go_wp2_with fail
    go_ret
    exact ⟨rfl, BB.out⟩
theorem cell_below {w wr : World} {p : Addr} {v : Value} (h : w.cell? p = some v) (hb : Below w.heap.size w wr) : wr.cell? p = some v := by
  rw [World.cell?_of_block (hb.block _ (World.block_lt_of_cell? w p h))]
  exact h
set_option maxHeartbeats 6400000 in
set_option maxRecDepth 20000 in
theorem diskPlays_some (n : Int) (m : Nat) (a : Option Addr) (len cap : Nat) (w : World) (h8 : 8 ≤ m) (h40 : m ≤ 40) (hn : (n ≤ 40 ∧ n = (m : Int)) ∨ (40 < n ∧ n ≤ 640 ∧ 8 + n % 33 = (m : Int))) (hd : IsDeeds w a len cap) :
    Calls Try.prog 3 #[.int .i64 n, .slice a len cap] w fun e w' => e = .returned (.bool true) ∧ Below w.heap.size w w' := by
  have DY := Lib.hid fun (w1 : World) (hw : Below w.heap.size w w1) => disks_yes hw m h8 (by omega)
  have pe : ∀ (y : Addr) w, (binOp .eql 25 (.pointer (some y)) (.pointer none)).run Try.prog w = .ok (.bool false) w := fun y w => by kernel_rfl
  have HD := Lib.hid hd
  have hlb : (len : Int) ≤ 9223372036854775807 := by have := hd.1; have := hd.2.1; unfold maxLen at *; omega
  have hlc := hd.1
  clear hd
  generalize DkS.fresh m = st0 at DY
  have key : (n ≤ 40 ∧ n = (m : Int)) ∨ (40 < n ∧ n ≤ 640 ∧ 8 + n % 33 = (m : Int)) := hn
  rcases hn with ⟨h1, rfl⟩ | ⟨h1, h2, h3⟩
  all_goals
    go_enter Try.func3, Try.ntmps3
    go_wp2_with fail
    refine (examples_any _).mono ?_
    rintro e w1 ⟨rfl, bb⟩
    have BB := Lib.hid bb
    clear bb
    go_wp2_with fail
    refine (DY.out _ BB.out).mono ?_
    rintro e w2 ⟨d, x, rfl, hp⟩
    have HP := Lib.hid hp
    have HS := Lib.hid (same_refl st0)
    have px := pe ⟨x, 0, none⟩
    clear hp key
    go_wp2_with fail
    go_loopw [9, 10, 11] (fun i _ _ wr => ∃ (j : Nat) (st sx : DkS), j ≤ len ∧ j ≤ 60 ∧ i = .int .i64 (j : Int) ∧ Hid (PairR w wr (fun _ => False) d x st sx) ∧ Hid (SameS st sx)) (fun i _ _ _ => 61 - (intOf i).toNat)
    case atStart => exact ⟨0, _, _, Nat.zero_le _, by omega, rfl, HP, HS⟩
    case round =>
      obtain ⟨j, st, sx, hj, hj60, rfl, HP, HS⟩ := hrel
      by_cases hgo : j < len ∧ j < 60
      · obtain ⟨hlt, h60⟩ := hgo
        have hji : (j : Int) < (len : Int) := by omega
        have h60i : (j : Int) < 60 := by omega
        obtain ⟨y, hy, kd, at_, s, nn, ka, klen, kcap, zs, c0, c1, c2, c3, c4, ⟨r0, r1⟩, hsz, ⟨n0, n1⟩, hk⟩ := HD.out.2.2 j hlt
        subst hy
        replace c0 := cell_below c0 HP.out.below
        replace c1 := cell_below c1 HP.out.below
        replace c2 := cell_below c2 HP.out.below
        replace c3 := cell_below c3 HP.out.below
        replace c4 := cell_below c4 HP.out.below
        have hk' := Lib.hid hk
        clear hk
        go_wp2_with fail
        refine (does_any HP.out HS.out kd at_ s nn ka klen kcap zs r0 r1 hsz n0 n1 hk'.out).mono ?_
        rintro e w3 ⟨st1, sx1, rfl, hp1, hs1, _⟩
        have HP1 := Lib.hid hp1
        have HS1 := Lib.hid hs1
        clear hp1 hs1
        go_wp2_with fail
        refine (like_is HP1.out HS1.out).mono ?_
        rintro e w4 ⟨rfl, hp2, _⟩
        have HP2 := Lib.hid hp2
        clear hp2
        go_wp2_with fail
        go_roundw
        case rel => exact ⟨j + 1, st1, sx1, by omega, by omega, by go_num, HP2, HS1⟩
        case measure => simp [intOf]; omega
      · rcases (by omega : ¬ (j : Int) < (len : Int) ∨ ((j : Int) < (len : Int) ∧ ¬ (j : Int) < 60)) with hji | ⟨hji, h60i⟩
        all_goals
          have HB := Lib.hid HP.out.below
          go_wp2_with fail
          go_ret
          exact ⟨rfl, HB.out⟩
theorem diskPlays_law (a0 : Int) (a : Option Addr) (len cap : Nat) (w : World) (v0 : (Lit.int .i64 a0).wf = true) (hd : IsDeeds w a len cap) :
    Calls Try.prog 3 #[.int .i64 a0, .slice a len cap] w fun e w' => e = .returned (.bool true) ∧ Below w.heap.size w w' := by
  by_cases h8 : a0 < 8
  · exact diskPlays_none a0 a len cap w (.inl h8)
  · by_cases h640 : 640 < a0
    · exact diskPlays_none a0 a len cap w (.inr h640)
    · by_cases h40 : a0 ≤ 40
      · exact diskPlays_some a0 a0.toNat a len cap w (by omega) (by omega) (.inl ⟨h40, by omega⟩) hd
      · exact diskPlays_some a0 (8 + a0 % 33).toNat a len cap w (by omega) (by omega) (.inr ⟨by omega, by omega, by omega⟩) hd
end Go.Proofs.Yteaiiiikehimgaa
