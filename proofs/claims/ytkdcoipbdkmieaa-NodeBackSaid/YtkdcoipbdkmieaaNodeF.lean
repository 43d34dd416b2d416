/-
  Package node: Find.
-/
import Derived.Test.YtkdcoipbdkmieaaNodeS
import Derived.WalkMore
namespace Go.Proofs.Ytkdcoipbdkmieaa
open Go.RowKit
set_option linter.unusedVariables false
set_option linter.unusedSimpArgs false
theorem box_kept {w w1 : World} {o : Obj} (b : Below (w.alloc o).heap.size (w.alloc o) w1) : w1.heap[w.heap.size]? = some o := by
  have h1 : w.heap.size < (w.alloc o).heap.size := by simp
  rw [b.block _ h1]
  exact heap_alloc_new w o
theorem box_below {w w1 : World} {o : Obj} (b : Below (w.alloc o).heap.size (w.alloc o) w1) : Below w.heap.size w w1 :=
  ((Below.refl _ _).alloc (Nat.le_refl _) _).trans (b.mono (by simp))
theorem ret_pair {a b : Int} {c d : Bool} (h : a = b) (h2 : c = d) : Ending.returned (.tuple #[.int .i64 a, .bool c]) = Ending.returned (.tuple #[.int .i64 b, .bool d]) := by rw [h, h2]
set_option maxHeartbeats 1600000 in
theorem find_is (n : Nod) (ak av ac : Option Addr) (ck cv cc : Nat) (w : World) (h : NodR w n ak av ac ck cv cc) (key : Int) (p : Nat) (ok : Bool) (hp : Hid (findN n key = (p, ok))) :
    Calls Try.prog 12 #[nodV n ak av ac ck cv cc, .int .u64 key] w fun e w' => e = .returned (.tuple #[.int .i64 (p : Int), .bool ok]) ∧ Below w.heap.size w w' := by
  obtain ⟨v, hv⟩ : ∃ v, wholeB n = v := ⟨_, rfl⟩
  have WH := Lib.hid (fun w => whole_any n ak av ac ck cv cc w h.ok v hv)
  have HK := Lib.hid h.k
  have hk := h.ok.k1
  cases v
  · have hp' := hp.out
    unfold findN at hp'
    rw [if_neg (by rw [hv]; simp)] at hp'
    obtain ⟨rfl, rfl⟩ := Prod.mk.inj hp'
    clear hp hp' h hv HK
    unfold nodV at *
    go_enter Try.func12, Try.ntmps12
    go_wp2_with fail
    go_step3
    go_wp2_with fail
    refine (WH.out _).mono ?_
    rintro e w1 ⟨rfl, b1⟩
    have B := box_below b1
    go_wp2_with fail
    try rw [Exit.noGoto_ret]
    go_ret2
    exact ⟨rfl, B⟩
  · have hp' := hp.out
    unfold findN at hp'
    rw [if_pos hv] at hp'
    obtain ⟨lf, K, V, C⟩ := n
    dsimp only at hp' HK hk
    have F0 : Hid (findAt lf key (K.drop 0) 0 = (p, ok)) := Lib.hid hp'
    have FS := Lib.hid (fun j hj => findAt_step lf key K j hj)
    clear hp hp' h hv
    unfold nodV at *
    dsimp only at WH ⊢
    obtain ⟨lk, hlk⟩ : ∃ lk, K.length = lk := ⟨_, rfl⟩
    rw [hlk] at WH hk ⊢
    generalize V.length = lv at *
    generalize C.length = lc at *
    go_enter Try.func12, Try.ntmps12
    go_wp2_with fail
    go_step3
    go_wp2_with fail
    refine (WH.out _).mono ?_
    rintro e w1 ⟨rfl, b1⟩
    have B := Lib.hid (box_below b1)
    have k1 := box_kept b1
    have k0 : w1.cell? ⟨w.heap.size, 0, none⟩ = some (.bool lf) := by rw [Go.Joins.cell_of_block k1]; rfl
    have k2 : w1.cell? ⟨w.heap.size, 1, none⟩ = some (.slice ak lk ck) := by rw [Go.Joins.cell_of_block k1]; rfl
    clear k1 b1 WH
    have HR := Lib.hid (HK.out.below B.out)
    clear HK
    go_wp2_with fail
    go_step3
    go_wp2_with fail
    go_loopw [4, 5, 6, 18] (fun s t q i wr => ∃ j : Nat, j ≤ lk ∧ i = .int .i64 (j : Int) ∧ q = .int .i64 (lk : Int) ∧ s = .int .i64 0 ∧ t = .bool false ∧ wr = w1 ∧ findAt lf key (K.drop j) j = (p, ok)) (fun _ _ _ i _ => lk + 1 - (intOf i).toNat)
    case atStart => exact ⟨0, Nat.zero_le _, rfl, rfl, rfl, rfl, rfl, F0.out⟩
    case round =>
      obtain ⟨j, hj, rfl, rfl, rfl, rfl, rfl, hfa⟩ := hrel
      by_cases hlt : j < lk
      · have hji : (j : Int) < (lk : Int) := by omega
        have hjK : j < K.length := by omega
        rw [FS.out j hjK] at hfa
        obtain ⟨b, off, rfl, hb, hcell⟩ := HR.out.at j (by simpa using hjK)
        have hcell' : wr.cell? ⟨b, off + j, none⟩ = some (.int .u64 K[j]) := by rw [hcell]; simp [ukey]
        clear hcell hb
        generalize hx : K[j] = x at *
        clear hx
        by_cases h1 : x = key
        · subst h1
          cases lf
          · rw [if_neg (by simp), if_neg (by omega)] at hfa
            have HFA := Lib.hid hfa
            clear hfa
            have q1 : ¬ x < x := by omega
            go_wp2_with fail
            go_roundw
            case rel => exact ⟨j + 1, by omega, by go_num, rfl, rfl, rfl, by trivial, HFA.out⟩
            case measure => simp [intOf]; omega
          · rw [if_pos ⟨rfl, rfl⟩] at hfa
            obtain ⟨rfl, rfl⟩ := Prod.mk.inj hfa
            clear hfa F0
            go_wp2_with fail
            try rw [Exit.noGoto_ret]
            go_ret2
            exact ⟨rfl, B.out⟩
        · have q1 : (x == key) = false := by simpa using h1
          rw [if_neg (fun hc => h1 hc.2)] at hfa
          by_cases h2 : key < x
          · rw [if_pos h2] at hfa
            obtain ⟨rfl, rfl⟩ := Prod.mk.inj hfa
            clear hfa F0
            cases lf
            · go_wp2_with fail
              go_quiet (fail)
              go_wp2_with fail
              try rw [Exit.noGoto_ret]
              go_ret2
              exact ⟨rfl, drewN_below B.out _⟩
            · go_wp2_with fail
              go_quiet (fail)
              go_wp2_with fail
              try rw [Exit.noGoto_ret]
              go_ret2
              exact ⟨rfl, drewN_below B.out _⟩
          · rw [if_neg h2] at hfa
            have HFA := Lib.hid hfa
            clear hfa
            cases lf
            all_goals
              go_wp2_with fail
              go_roundw
              case rel => exact ⟨j + 1, by omega, by go_num, rfl, rfl, rfl, by trivial, HFA.out⟩
              case measure => simp [intOf]; omega
      · obtain rfl : j = lk := by omega
        have hji : ¬ (j : Int) < (j : Int) := by omega
        rw [findAt_end lf key K j hlk] at hfa
        obtain ⟨rfl, rfl⟩ := Prod.mk.inj hfa
        clear hfa F0
        go_wp2_with fail
        go_quiet (fail)
        go_wp2_with fail
        try rw [Exit.noGoto_ret]
        go_ret2
        exact ⟨rfl, drewN_below B.out _⟩
end Go.Proofs.Ytkdcoipbdkmieaa
