/-
  The law NodeBack of package bailiwicklaw10.
-/
import Derived.Test.YtkdcoipbdkmieaaNodeX
import Derived.Test.YtkdcoipbdkmieaaNodeDa
import Derived.Test.YtkdcoipbdkmieaaNodeEb
import Derived.Test.YtkdcoipbdkmieaaNodeB
import Derived.Test.YtkdcoipbdkmieaaNodeN
import Derived.Test.YtkdcoipbdkmieaaPairs
namespace Go.Proofs.Ytkdcoipbdkmieaa
open Go.RowKit
set_option linter.unusedVariables false
set_option linter.unusedSimpArgs false
def BackAt (M : Nod) : Prop :=
  (∀ ak av ac ck cv cc w', NodR w' M ak av ac ck cv cc → Calls Try.prog 31 #[nodV M ak av ac ck cv cc] w' fun e w'' => e = .returned (.tuple #[.string ⟨#[]⟩, .int .i64 1]) ∧ Below w'.heap.size w' w'') ∨
  ∃ x : ByteArray, (∀ ak av ac ck cv cc w', NodR w' M ak av ac ck cv cc → Calls Try.prog 31 #[nodV M ak av ac ck cv cc] w' fun e w'' => e = .returned (.tuple #[.string x, .int .i64 0]) ∧ Below w'.heap.size w' w'') ∧
    (∀ w', Calls Try.prog 32 #[.string x] w' fun e w'' => DecBack w'.heap.size M e w'' ∧ Below w'.heap.size w' w'') ∧
    (∀ ak av ac ck cv cc w', NodR w' M ak av ac ck cv cc → Calls Try.prog 33 #[nodV M ak av ac ck cv cc] w' fun e w'' => e = .returned (.int .i64 (x.size : Int)) ∧ Below w'.heap.size w' w'') ∧ x.size ≤ 240
theorem back_at (M : Nod) (ho : NodOk M) : BackAt M := by
  cases hr : rightN M with
  | false => exact .inl fun ak av ac ck cv cc w' h => encode_no M ak av ac ck cv cc w' h hr
  | true =>
    have hr2 := (rightN_iff M).1 hr
    have hp := (plainB_iff M).1 hr2.1
    have hz := enc_size M hr2.2.1 ho hp.2.1 hp.2.2
    refine .inr ⟨encN M, fun ak av ac ck cv cc w' h => encode_yes M ak av ac ck cv cc w' h hr, fun w' => ?_, fun ak av ac ck cv cc w' h => size_is M ak av ac ck cv cc w' h _ (Lib.hid hz.symm) hr2.2.1, by rw [hz]; exact hr2.2.2.2⟩
    have := decode_any (encN M) w'
    rw [dec_enc M ho hr] at this
    exact this
/-- What Decode and Encode make of a text. -/
def TextAt (s : ByteArray) : Prop :=
  (∀ w', Calls Try.prog 32 #[.string s] w' fun e w'' => e = .returned (.tuple #[.agg #[.bool false, .slice none 0 0, .slice none 0 0, .slice none 0 0], .int .i64 2]) ∧ Below w'.heap.size w' w'') ∨
  ∃ M : Nod, (∀ w', Calls Try.prog 32 #[.string s] w' fun e w'' => DecBack w'.heap.size M e w'' ∧ Below w'.heap.size w' w'') ∧
    (∀ ak av ac ck cv cc w', NodR w' M ak av ac ck cv cc → Calls Try.prog 31 #[nodV M ak av ac ck cv cc] w' fun e w'' => e = .returned (.tuple #[.string s, .int .i64 0]) ∧ Below w'.heap.size w' w'')
theorem text_at (s : ByteArray) : TextAt s := by
  have h := fun w => decode_any s w
  cases hd : decN s with
  | none => rw [hd] at h; exact .inl h
  | some M =>
    rw [hd] at h
    obtain ⟨h1, h2, h3⟩ := enc_dec s M hd
    refine .inr ⟨M, h, fun ak av ac ck cv cc w' hR => ?_⟩
    have := encode_yes M ak av ac ck cv cc w' hR h2
    rw [h1] at this
    exact this
theorem zero_encode (w' : World) : Calls Try.prog 31 #[.agg #[.bool false, .slice none 0 0, .slice none 0 0, .slice none 0 0]] w' fun e w'' => e = .returned (.tuple #[.string ⟨#[]⟩, .int .i64 1]) ∧ Below w'.heap.size w' w'' :=
  encode_no ⟨false, [], [], []⟩ none none none 0 0 0 w' ⟨.inl rfl, .inl rfl, .inl rfl, Nat.le_refl _, Nat.zero_le _, Nat.le_refl _, Nat.zero_le _, Nat.le_refl _, Nat.zero_le _, ⟨Nat.zero_le _, Nat.zero_le _, Nat.zero_le _, (fun x hx => by cases hx), (fun x hx => by cases hx), fun x hx => by cases hx⟩⟩ (by decide)
set_option maxHeartbeats 12800000 in
set_option maxRecDepth 20000 in
theorem nodeBack_law (a : Option Addr) (len cap : Nat) (s : ByteArray) (w : World) (hpr : IsPairs w a len) (hsz : s.size ≤ 140737488351232) :
    Calls Try.prog 5 #[.slice a len cap, .string s] w fun e w' => e = .returned (.bool true) ∧ Below w.heap.size w w' := by
  obtain ⟨L, rfl, hL, hk, hs⟩ := hpr
  have EX := Lib.hid (examples_yes w)
  have GR := Lib.hid (fun w' (hb : Below w.heap.size w w') => grow_any a cap L w' (hL.below hb) hk hs)
  have BR := Lib.hid (fun w' (hb : Below w.heap.size w w') => branch_any a cap L w' (hL.below hb) hk)
  obtain ⟨G, hG⟩ : ∃ G, growN L 20 = G := ⟨_, rfl⟩
  obtain ⟨B, hB⟩ : ∃ B, branchN L (min L.length 20) = B := ⟨_, rfl⟩
  rw [hG] at GR
  rw [hB] at BR
  have TX := text_at s
  have ZE := Lib.hid zero_encode
  clear hL hk hs hG hB hsz
  generalize L.length = ln at *
  go_enter Try.func5, Try.ntmps5
  go_wp2_with fail
  refine EX.out.mono ?_
  rintro e w1 ⟨rfl, b1⟩
  have B1 := Lib.hid b1
  clear b1 EX
  go_wp2_with fail
  refine (GR.out _ B1.out).mono ?_
  rintro e w2 ⟨⟨gk, gv, gc, hk, hv, hc, rfl, hR2, -, -, -⟩, b2⟩
  have B2 := Lib.hid (chain B1.out b2)
  have R2 := Lib.hid hR2
  clear b2 hR2 B1 GR
  go_wp2_with fail
  refine (BR.out _ B2.out).mono ?_
  rintro e w3 ⟨⟨bk, bv, bc, dk, dv, dc, rfl, hR3, -, -, -⟩, b3⟩
  have B3 := Lib.hid (chain B2.out b3)
  have RG3 := Lib.hid (R2.out.below b3)
  have RB3 := Lib.hid hR3
  have KG := Lib.hid (back_at G RG3.out.ok)
  have KB := Lib.hid (back_at B RB3.out.ok)
  have RFG := Lib.hid (fun ak av ac ck cv cc w' => ref_is G ak av ac ck cv cc w')
  have RFB := Lib.hid (fun ak av ac ck cv cc w' => ref_is B ak av ac ck cv cc w')
  have NYG := Lib.hid (fun ak av ac bk bv bc ck cv cc dk dv dc w' (hA : NodR w' G ak av ac ck cv cc) (hB : NodR w' G bk bv bc dk dv dc) => nodes_yes G ak av ac bk bv bc ck cv cc dk dv dc w' hA hB)
  have NYB := Lib.hid (fun ak av ac bk bv bc ck cv cc dk dv dc w' (hA : NodR w' B ak av ac ck cv cc) (hB : NodR w' B bk bv bc dk dv dc) => nodes_yes B ak av ac bk bv bc ck cv cc dk dv dc w' hA hB)
  clear b3 hR3 B2 R2 BR
  simp only [nodV]
  go_upto_region 5 with fail
  obtain ⟨w4, hw4⟩ : ∃ w4, w3.alloc (.cells #[.bool G.leaf, .slice gk G.K.length hk, .slice gv G.V.length hv, .slice gc G.C.length hc, .bool B.leaf, .slice bk B.K.length dk, .slice bv B.V.length dv, .slice bc B.C.length dc] 26) = w4 := ⟨_, rfl⟩
  rw [hw4]
  have b4 : Below w3.heap.size w3 w4 := by rw [← hw4]; exact below_made _ _
  have X4 : Hid (w4.heap[w3.heap.size]? = some (.cells #[.bool G.leaf, .slice gk G.K.length hk, .slice gv G.V.length hv, .slice gc G.C.length hc, .bool B.leaf, .slice bk B.K.length dk, .slice bv B.V.length dv, .slice bc B.C.length dc] 26)) := Lib.hid (by rw [← hw4]; exact heap_alloc_new _ _)
  have RG4 := Lib.hid (RG3.out.below b4)
  have RB4 := Lib.hid (RB3.out.below b4)
  have B4 := Lib.hid (chain B3.out b4)
  clear hw4 b4 RG3 RB3 B3
  go_wp2_with fail
  go_loopw [7] (fun i wr => ∃ j : Nat, j ≤ 2 ∧ i = .int .i64 (j : Int) ∧ Below w4.heap.size w4 wr) (fun i _ => 3 - (intOf i).toNat)
  case atStart => exact ⟨0, Nat.zero_le _, rfl, Below.refl _ _⟩
  case round =>
    obtain ⟨j, hj, rfl, hBw⟩ := hrel
    have BW := Lib.hid hBw
    clear hBw
    rcases (show j = 0 ∨ j = 1 ∨ j = 2 from by omega) with rfl | rfl | rfl
    · have hK := KG.out
      unfold BackAt at hK
      have XW := Lib.hid (kept X4.out BW.out)
      have RW := Lib.hid (RG4.out.below BW.out)
      have y0 : wr.cell? ⟨w3.heap.size, 0, none⟩ = some (.bool G.leaf) := by rw [Go.Joins.cell_of_block XW.out]; rfl
      have y1 : wr.cell? ⟨w3.heap.size, 1, none⟩ = some (.slice gk G.K.length hk) := by rw [Go.Joins.cell_of_block XW.out]; rfl
      have y2 : wr.cell? ⟨w3.heap.size, 2, none⟩ = some (.slice gv G.V.length hv) := by rw [Go.Joins.cell_of_block XW.out]; rfl
      have y3 : wr.cell? ⟨w3.heap.size, 3, none⟩ = some (.slice gc G.C.length hc) := by rw [Go.Joins.cell_of_block XW.out]; rfl
      rcases hK with hno | ⟨x, hen, hde, hsz, hx⟩
      · have NO := Lib.hid hno
        clear hno
        go_wp2_with fail
        refine (NO.out _ _ _ _ _ _ _ RW.out).mono ?_
        rintro e w5 ⟨rfl, b5⟩
        have B5 := Lib.hid (chain BW.out b5)
        clear b5 y0 y1 y2 y3
        go_wp2_with fail
        go_roundw
        case rel => exact ⟨1, by omega, rfl, B5.out⟩
        case measure => simp [intOf]
      · have EN := Lib.hid hen
        have DE := Lib.hid hde
        have SZ := Lib.hid hsz
        clear hen hde hsz
        have hxi : (x.size : Int) ≤ 240 := by omega
        go_wp2_with fail
        refine (EN.out _ _ _ _ _ _ _ RW.out).mono ?_
        rintro e w5 ⟨rfl, b5⟩
        have B5 := Lib.hid (chain BW.out b5)
        have X5 := Lib.hid (kept XW.out b5)
        have R5 := Lib.hid (RW.out.below b5)
        clear b5 y0 y1 y2 y3 XW RW
        go_wp2_with fail
        refine (DE.out _).mono ?_
        rintro e w6 ⟨⟨mk, mv, mc, nk, nv, nc, rfl, hM, -, -, -⟩, b6⟩
        have B6 := Lib.hid (chain B5.out b6)
        have X6 := Lib.hid (kept X5.out b6)
        have R6 := Lib.hid (R5.out.below b6)
        have M6 := Lib.hid hM
        clear b6 hM X5 R5 B5
        simp only [nodV]
        go_upto_region 11 with fail
        obtain ⟨w7, hw7⟩ : ∃ w7, w6.alloc (.cells #[.bool G.leaf, .slice mk G.K.length nk, .slice mv G.V.length nv, .slice mc G.C.length nc] 26) = w7 := ⟨_, rfl⟩
        rw [hw7]
        have b7 : Below w6.heap.size w6 w7 := by rw [← hw7]; exact below_made _ _
        have Y7 := Lib.hid (show w7.heap[w6.heap.size]? = some (.cells #[.bool G.leaf, .slice mk G.K.length nk, .slice mv G.V.length nv, .slice mc G.C.length nc] 26) from by rw [← hw7]; exact heap_alloc_new _ _)
        have B7 := Lib.hid (chain B6.out b7)
        have X7 := Lib.hid (kept X6.out b7)
        have R7 := Lib.hid (R6.out.below b7)
        have M7 := Lib.hid (M6.out.below b7)
        clear b7 hw7 B6 X6 R6 M6
        refine wp_region_held_drew (S := fun w' => Below w7.heap.size w7 w') (by kernel_rfl) (Below.refl w7.heap.size w7).drew (fun hS => ?_)
        refine held_take (i := 0) 44 (v := ?vr00x1) rfl rfl (by kernel_rfl) (by kernel_rfl) (by kernel_rfl) (fun _ _ _ h => h) hS (by rfl) ?hr00x1 ?rr00x1
        case hr00x1 =>
          intro w9 s9
          have X9 := kept Y7.out s9
          have c0 : w9.cell? ⟨w6.heap.size, 0, none⟩ = some (.bool G.leaf) := by rw [Go.Joins.cell_of_block X9]; rfl
          have c1 : w9.cell? ⟨w6.heap.size, 1, none⟩ = some (.slice mk G.K.length nk) := by rw [Go.Joins.cell_of_block X9]; rfl
          have c2 : w9.cell? ⟨w6.heap.size, 2, none⟩ = some (.slice mv G.V.length nv) := by rw [Go.Joins.cell_of_block X9]; rfl
          have c3 : w9.cell? ⟨w6.heap.size, 3, none⟩ = some (.slice mc G.C.length nc) := by rw [Go.Joins.cell_of_block X9]; rfl
          clear s9
          go_simp
          try (with_reducible rfl)
        simp only [List.setIfInBounds_toArray, List.set_cons_zero, List.set_cons_succ]
        refine held_take (i := 1) 45 (v := ?vr01x2) rfl rfl (by kernel_rfl) (by kernel_rfl) (by kernel_rfl) (fun _ _ _ h => h) hS (by rfl) ?hr01x2 ?rr01x2
        case hr01x2 =>
          intro w9 s9
          clear s9
          go_simp
          try (with_reducible rfl)
        simp only [List.setIfInBounds_toArray, List.set_cons_zero, List.set_cons_succ]
        refine held_take (i := 2) 46 (v := ?vr02x3) rfl rfl (by kernel_rfl) (by kernel_rfl) (by kernel_rfl) (fun _ _ _ h => h) hS (by rfl) ?hr02x3 ?rr02x3
        case hr02x3 =>
          intro w9 s9
          clear s9
          go_simp
          try (with_reducible rfl)
        simp only [List.setIfInBounds_toArray, List.set_cons_zero, List.set_cons_succ]
        refine held_take (i := 3) 47 (v := ?vr03x4) rfl rfl (by kernel_rfl) (by kernel_rfl) (by kernel_rfl) (fun _ _ _ h => h) hS (by rfl) ?hr03x4 ?rr03x4
        case hr03x4 =>
          intro w9 s9
          clear s9
          go_simp
          try (with_reducible rfl)
        simp only [List.setIfInBounds_toArray, List.set_cons_zero, List.set_cons_succ]
        refine held_take (i := 4) 48 (v := ?vr04x5) rfl rfl (by kernel_rfl) (by kernel_rfl) (by kernel_rfl) (fun _ _ _ h => h) hS (by rfl) ?hr04x5 ?rr04x5
        case hr04x5 =>
          intro w9 s9
          have X9 := kept X7.out s9
          have c0 : w9.cell? ⟨w3.heap.size, 0, none⟩ = some (.bool G.leaf) := by rw [Go.Joins.cell_of_block X9]; rfl
          have c1 : w9.cell? ⟨w3.heap.size, 1, none⟩ = some (.slice gk G.K.length hk) := by rw [Go.Joins.cell_of_block X9]; rfl
          have c2 : w9.cell? ⟨w3.heap.size, 2, none⟩ = some (.slice gv G.V.length hv) := by rw [Go.Joins.cell_of_block X9]; rfl
          have c3 : w9.cell? ⟨w3.heap.size, 3, none⟩ = some (.slice gc G.C.length hc) := by rw [Go.Joins.cell_of_block X9]; rfl
          clear s9
          go_simp
          try (with_reducible rfl)
        simp only [List.setIfInBounds_toArray, List.set_cons_zero, List.set_cons_succ]
        refine held_step (i := 5) rfl (by kernel_rfl) (fun K hK => ?_)
        have HK := Lib.hid hK
        clear hK
        go_simp
        go_wp2_with fail
        refine (RFG.out _ _ _ _ _ _ _).mono ?_
        rintro e u5 ⟨rfl, b8⟩
        simp only [nodV]
        refine HK.out _ _ ?_ ?_
        · exact chain hS b8
        clear HK K
        try simp only [Act.put, List.setIfInBounds_toArray, List.set_cons_zero, List.set_cons_succ]
        have hS9 := chain hS b8
        clear hS
        have hS := hS9
        clear hS9
        clear b8
        refine held_step (i := 6) rfl (by kernel_rfl) (fun K hK => ?_)
        have HK := Lib.hid hK
        clear hK
        go_simp
        go_wp2_with fail
        refine (NYG.out _ _ _ _ _ _ _ _ _ _ _ _ _ (M7.out.below hS) (R7.out.below hS)).mono ?_
        rintro e u6 ⟨rfl, b9⟩
        refine HK.out _ _ ?_ ?_
        · exact chain hS b9
        clear HK K
        try simp only [Act.put, List.setIfInBounds_toArray, List.set_cons_zero, List.set_cons_succ]
        have hS9 := chain hS b9
        clear hS
        have hS := hS9
        clear hS9
        clear b9
        refine held_take (i := 7) 12 (v := ?vr07x6) rfl rfl (by kernel_rfl) (by kernel_rfl) (by kernel_rfl) (fun _ _ _ h => h) hS (by rfl) ?hr07x6 ?rr07x6
        case hr07x6 =>
          intro w9 s9
          clear s9
          go_simp
          try (with_reducible rfl)
        simp only [List.setIfInBounds_toArray, List.set_cons_zero, List.set_cons_succ]
        refine wpAnyH_done (by kernel_rfl) ?_ _
        have H9 := Lib.hid hS
        clear hS
        have Y9 := Lib.hid (kept Y7.out H9.out)
        have M9 := Lib.hid (M7.out.below H9.out)
        have B9 := Lib.hid (chain B7.out H9.out)
        clear Y7 M7 B7 X7 R7
        have y0 : u6.cell? ⟨w6.heap.size, 0, none⟩ = some (.bool G.leaf) := by rw [Go.Joins.cell_of_block Y9.out]; rfl
        have y1 : u6.cell? ⟨w6.heap.size, 1, none⟩ = some (.slice mk G.K.length nk) := by rw [Go.Joins.cell_of_block Y9.out]; rfl
        have y2 : u6.cell? ⟨w6.heap.size, 2, none⟩ = some (.slice mv G.V.length nv) := by rw [Go.Joins.cell_of_block Y9.out]; rfl
        have y3 : u6.cell? ⟨w6.heap.size, 3, none⟩ = some (.slice mc G.C.length nc) := by rw [Go.Joins.cell_of_block Y9.out]; rfl
        go_wp2_with fail
        refine (SZ.out _ _ _ _ _ _ _ M9.out).mono ?_
        rintro e u7 ⟨rfl, b10⟩
        have B10 := Lib.hid (chain B9.out b10)
        clear b10
        go_wp2_with fail
        go_roundw
        case rel => exact ⟨1, by omega, rfl, B10.out⟩
        case measure => simp [intOf]
    · have hK := KB.out
      unfold BackAt at hK
      have XW := Lib.hid (kept X4.out BW.out)
      have RW := Lib.hid (RB4.out.below BW.out)
      have y0 : wr.cell? ⟨w3.heap.size, 4, none⟩ = some (.bool B.leaf) := by rw [Go.Joins.cell_of_block XW.out]; rfl
      have y1 : wr.cell? ⟨w3.heap.size, 5, none⟩ = some (.slice bk B.K.length dk) := by rw [Go.Joins.cell_of_block XW.out]; rfl
      have y2 : wr.cell? ⟨w3.heap.size, 6, none⟩ = some (.slice bv B.V.length dv) := by rw [Go.Joins.cell_of_block XW.out]; rfl
      have y3 : wr.cell? ⟨w3.heap.size, 7, none⟩ = some (.slice bc B.C.length dc) := by rw [Go.Joins.cell_of_block XW.out]; rfl
      rcases hK with hno | ⟨x, hen, hde, hsz, hx⟩
      · have NO := Lib.hid hno
        clear hno
        go_wp2_with fail
        refine (NO.out _ _ _ _ _ _ _ RW.out).mono ?_
        rintro e w5 ⟨rfl, b5⟩
        have B5 := Lib.hid (chain BW.out b5)
        clear b5 y0 y1 y2 y3
        go_wp2_with fail
        go_roundw
        case rel => exact ⟨2, by omega, rfl, B5.out⟩
        case measure => simp [intOf]
      · have EN := Lib.hid hen
        have DE := Lib.hid hde
        have SZ := Lib.hid hsz
        clear hen hde hsz
        have hxi : (x.size : Int) ≤ 240 := by omega
        go_wp2_with fail
        refine (EN.out _ _ _ _ _ _ _ RW.out).mono ?_
        rintro e w5 ⟨rfl, b5⟩
        have B5 := Lib.hid (chain BW.out b5)
        have X5 := Lib.hid (kept XW.out b5)
        have R5 := Lib.hid (RW.out.below b5)
        clear b5 y0 y1 y2 y3 XW RW
        go_wp2_with fail
        refine (DE.out _).mono ?_
        rintro e w6 ⟨⟨mk, mv, mc, nk, nv, nc, rfl, hM, -, -, -⟩, b6⟩
        have B6 := Lib.hid (chain B5.out b6)
        have X6 := Lib.hid (kept X5.out b6)
        have R6 := Lib.hid (R5.out.below b6)
        have M6 := Lib.hid hM
        clear b6 hM X5 R5 B5
        simp only [nodV]
        go_upto_region 11 with fail
        obtain ⟨w7, hw7⟩ : ∃ w7, w6.alloc (.cells #[.bool B.leaf, .slice mk B.K.length nk, .slice mv B.V.length nv, .slice mc B.C.length nc] 26) = w7 := ⟨_, rfl⟩
        rw [hw7]
        have b7 : Below w6.heap.size w6 w7 := by rw [← hw7]; exact below_made _ _
        have Y7 := Lib.hid (show w7.heap[w6.heap.size]? = some (.cells #[.bool B.leaf, .slice mk B.K.length nk, .slice mv B.V.length nv, .slice mc B.C.length nc] 26) from by rw [← hw7]; exact heap_alloc_new _ _)
        have B7 := Lib.hid (chain B6.out b7)
        have X7 := Lib.hid (kept X6.out b7)
        have R7 := Lib.hid (R6.out.below b7)
        have M7 := Lib.hid (M6.out.below b7)
        clear b7 hw7 B6 X6 R6 M6
        refine wp_region_held_drew (S := fun w' => Below w7.heap.size w7 w') (by kernel_rfl) (Below.refl w7.heap.size w7).drew (fun hS => ?_)
        refine held_take (i := 0) 44 (v := ?vr10x1) rfl rfl (by kernel_rfl) (by kernel_rfl) (by kernel_rfl) (fun _ _ _ h => h) hS (by rfl) ?hr10x1 ?rr10x1
        case hr10x1 =>
          intro w9 s9
          have X9 := kept Y7.out s9
          have c0 : w9.cell? ⟨w6.heap.size, 0, none⟩ = some (.bool B.leaf) := by rw [Go.Joins.cell_of_block X9]; rfl
          have c1 : w9.cell? ⟨w6.heap.size, 1, none⟩ = some (.slice mk B.K.length nk) := by rw [Go.Joins.cell_of_block X9]; rfl
          have c2 : w9.cell? ⟨w6.heap.size, 2, none⟩ = some (.slice mv B.V.length nv) := by rw [Go.Joins.cell_of_block X9]; rfl
          have c3 : w9.cell? ⟨w6.heap.size, 3, none⟩ = some (.slice mc B.C.length nc) := by rw [Go.Joins.cell_of_block X9]; rfl
          clear s9
          go_simp
          try (with_reducible rfl)
        simp only [List.setIfInBounds_toArray, List.set_cons_zero, List.set_cons_succ]
        refine held_take (i := 1) 45 (v := ?vr11x2) rfl rfl (by kernel_rfl) (by kernel_rfl) (by kernel_rfl) (fun _ _ _ h => h) hS (by rfl) ?hr11x2 ?rr11x2
        case hr11x2 =>
          intro w9 s9
          clear s9
          go_simp
          try (with_reducible rfl)
        simp only [List.setIfInBounds_toArray, List.set_cons_zero, List.set_cons_succ]
        refine held_take (i := 2) 46 (v := ?vr12x3) rfl rfl (by kernel_rfl) (by kernel_rfl) (by kernel_rfl) (fun _ _ _ h => h) hS (by rfl) ?hr12x3 ?rr12x3
        case hr12x3 =>
          intro w9 s9
          clear s9
          go_simp
          try (with_reducible rfl)
        simp only [List.setIfInBounds_toArray, List.set_cons_zero, List.set_cons_succ]
        refine held_take (i := 3) 47 (v := ?vr13x4) rfl rfl (by kernel_rfl) (by kernel_rfl) (by kernel_rfl) (fun _ _ _ h => h) hS (by rfl) ?hr13x4 ?rr13x4
        case hr13x4 =>
          intro w9 s9
          clear s9
          go_simp
          try (with_reducible rfl)
        simp only [List.setIfInBounds_toArray, List.set_cons_zero, List.set_cons_succ]
        refine held_take (i := 4) 48 (v := ?vr14x5) rfl rfl (by kernel_rfl) (by kernel_rfl) (by kernel_rfl) (fun _ _ _ h => h) hS (by rfl) ?hr14x5 ?rr14x5
        case hr14x5 =>
          intro w9 s9
          have X9 := kept X7.out s9
          have c0 : w9.cell? ⟨w3.heap.size, 4, none⟩ = some (.bool B.leaf) := by rw [Go.Joins.cell_of_block X9]; rfl
          have c1 : w9.cell? ⟨w3.heap.size, 5, none⟩ = some (.slice bk B.K.length dk) := by rw [Go.Joins.cell_of_block X9]; rfl
          have c2 : w9.cell? ⟨w3.heap.size, 6, none⟩ = some (.slice bv B.V.length dv) := by rw [Go.Joins.cell_of_block X9]; rfl
          have c3 : w9.cell? ⟨w3.heap.size, 7, none⟩ = some (.slice bc B.C.length dc) := by rw [Go.Joins.cell_of_block X9]; rfl
          clear s9
          go_simp
          try (with_reducible rfl)
        simp only [List.setIfInBounds_toArray, List.set_cons_zero, List.set_cons_succ]
        refine held_step (i := 5) rfl (by kernel_rfl) (fun K hK => ?_)
        have HK := Lib.hid hK
        clear hK
        go_simp
        go_wp2_with fail
        refine (RFB.out _ _ _ _ _ _ _).mono ?_
        rintro e u5 ⟨rfl, b8⟩
        simp only [nodV]
        refine HK.out _ _ ?_ ?_
        · exact chain hS b8
        clear HK K
        try simp only [Act.put, List.setIfInBounds_toArray, List.set_cons_zero, List.set_cons_succ]
        have hS9 := chain hS b8
        clear hS
        have hS := hS9
        clear hS9
        clear b8
        refine held_step (i := 6) rfl (by kernel_rfl) (fun K hK => ?_)
        have HK := Lib.hid hK
        clear hK
        go_simp
        go_wp2_with fail
        refine (NYB.out _ _ _ _ _ _ _ _ _ _ _ _ _ (M7.out.below hS) (R7.out.below hS)).mono ?_
        rintro e u6 ⟨rfl, b9⟩
        refine HK.out _ _ ?_ ?_
        · exact chain hS b9
        clear HK K
        try simp only [Act.put, List.setIfInBounds_toArray, List.set_cons_zero, List.set_cons_succ]
        have hS9 := chain hS b9
        clear hS
        have hS := hS9
        clear hS9
        clear b9
        refine held_take (i := 7) 12 (v := ?vr17x6) rfl rfl (by kernel_rfl) (by kernel_rfl) (by kernel_rfl) (fun _ _ _ h => h) hS (by rfl) ?hr17x6 ?rr17x6
        case hr17x6 =>
          intro w9 s9
          clear s9
          go_simp
          try (with_reducible rfl)
        simp only [List.setIfInBounds_toArray, List.set_cons_zero, List.set_cons_succ]
        refine wpAnyH_done (by kernel_rfl) ?_ _
        have H9 := Lib.hid hS
        clear hS
        have Y9 := Lib.hid (kept Y7.out H9.out)
        have M9 := Lib.hid (M7.out.below H9.out)
        have B9 := Lib.hid (chain B7.out H9.out)
        clear Y7 M7 B7 X7 R7
        have y0 : u6.cell? ⟨w6.heap.size, 0, none⟩ = some (.bool B.leaf) := by rw [Go.Joins.cell_of_block Y9.out]; rfl
        have y1 : u6.cell? ⟨w6.heap.size, 1, none⟩ = some (.slice mk B.K.length nk) := by rw [Go.Joins.cell_of_block Y9.out]; rfl
        have y2 : u6.cell? ⟨w6.heap.size, 2, none⟩ = some (.slice mv B.V.length nv) := by rw [Go.Joins.cell_of_block Y9.out]; rfl
        have y3 : u6.cell? ⟨w6.heap.size, 3, none⟩ = some (.slice mc B.C.length nc) := by rw [Go.Joins.cell_of_block Y9.out]; rfl
        go_wp2_with fail
        refine (SZ.out _ _ _ _ _ _ _ M9.out).mono ?_
        rintro e u7 ⟨rfl, b10⟩
        have B10 := Lib.hid (chain B9.out b10)
        clear b10
        go_wp2_with fail
        go_roundw
        case rel => exact ⟨2, by omega, rfl, B10.out⟩
        case measure => simp [intOf]
    · clear KG KB RFG RFB NYG NYB X4 RG4 RB4
      have B5 := Lib.hid (chain B4.out BW.out)
      unfold TextAt at TX
      rcases TX with hd | ⟨M, hd, he⟩
      · have DS := Lib.hid hd
        clear hd
        go_wp2_with fail
        refine (DS.out _).mono ?_
        rintro e w6 ⟨rfl, b6⟩
        have B6 := Lib.hid (chain B5.out b6)
        clear b6 B5
        go_upto_region 15 with fail
        obtain ⟨w7, hw7⟩ : ∃ w7, w6.alloc (.cells #[.bool false, .slice none 0 0, .slice none 0 0, .slice none 0 0] 26) = w7 := ⟨_, rfl⟩
        rw [hw7]
        have b7 : Below w6.heap.size w6 w7 := by rw [← hw7]; exact below_made _ _
        have Y7 := Lib.hid (show w7.heap[w6.heap.size]? = some (.cells #[.bool false, .slice none 0 0, .slice none 0 0, .slice none 0 0] 26) from by rw [← hw7]; exact heap_alloc_new _ _)
        have B7 := Lib.hid (chain B6.out b7)
        clear b7 hw7 B6
        have y0 : w7.cell? ⟨w6.heap.size, 0, none⟩ = some (.bool false) := by rw [Go.Joins.cell_of_block Y7.out]; rfl
        have y1 : w7.cell? ⟨w6.heap.size, 1, none⟩ = some (.slice none 0 0) := by rw [Go.Joins.cell_of_block Y7.out]; rfl
        have y2 : w7.cell? ⟨w6.heap.size, 2, none⟩ = some (.slice none 0 0) := by rw [Go.Joins.cell_of_block Y7.out]; rfl
        have y3 : w7.cell? ⟨w6.heap.size, 3, none⟩ = some (.slice none 0 0) := by rw [Go.Joins.cell_of_block Y7.out]; rfl
        go_wp2_with fail
        refine (ZE.out _).mono ?_
        rintro e w8 ⟨rfl, b8⟩
        have B8 := chain B7.out b8
        go_wp2_with fail
        go_ret
        exact ⟨rfl, B8⟩
      · have DS := Lib.hid hd
        have ES := Lib.hid he
        clear hd he
        go_wp2_with fail
        refine (DS.out _).mono ?_
        rintro e w6 ⟨⟨mk, mv, mc, nk, nv, nc, rfl, hM, -, -, -⟩, b6⟩
        have B6 := Lib.hid (chain B5.out b6)
        have M6 := Lib.hid hM
        clear b6 B5 hM
        simp only [nodV]
        go_upto_region 15 with fail
        obtain ⟨w7, hw7⟩ : ∃ w7, w6.alloc (.cells #[.bool M.leaf, .slice mk M.K.length nk, .slice mv M.V.length nv, .slice mc M.C.length nc] 26) = w7 := ⟨_, rfl⟩
        rw [hw7]
        have b7 : Below w6.heap.size w6 w7 := by rw [← hw7]; exact below_made _ _
        have Y7 := Lib.hid (show w7.heap[w6.heap.size]? = some (.cells #[.bool M.leaf, .slice mk M.K.length nk, .slice mv M.V.length nv, .slice mc M.C.length nc] 26) from by rw [← hw7]; exact heap_alloc_new _ _)
        have B7 := Lib.hid (chain B6.out b7)
        have M7 := Lib.hid (M6.out.below b7)
        clear b7 hw7 B6 M6
        have y0 : w7.cell? ⟨w6.heap.size, 0, none⟩ = some (.bool M.leaf) := by rw [Go.Joins.cell_of_block Y7.out]; rfl
        have y1 : w7.cell? ⟨w6.heap.size, 1, none⟩ = some (.slice mk M.K.length nk) := by rw [Go.Joins.cell_of_block Y7.out]; rfl
        have y2 : w7.cell? ⟨w6.heap.size, 2, none⟩ = some (.slice mv M.V.length nv) := by rw [Go.Joins.cell_of_block Y7.out]; rfl
        have y3 : w7.cell? ⟨w6.heap.size, 3, none⟩ = some (.slice mc M.C.length nc) := by rw [Go.Joins.cell_of_block Y7.out]; rfl
        go_wp2_with fail
        refine (ES.out _ _ _ _ _ _ _ M7.out).mono ?_
        rintro e w8 ⟨rfl, b8⟩
        have B8 := chain B7.out b8
        go_wp2_with fail
        go_ret
        exact ⟨rfl, B8⟩
end Go.Proofs.Ytkdcoipbdkmieaa
