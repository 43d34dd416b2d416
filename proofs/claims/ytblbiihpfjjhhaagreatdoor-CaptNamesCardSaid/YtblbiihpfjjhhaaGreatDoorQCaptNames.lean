/-
 Proved here: the law CaptNames of package bailiwicklaw15 returns true for every input, and leaves its arguments as they were. Conditions: none beyond the statement's own (two tables of Go's library are listed, as the program's text lays them; the call reads neither).
-/
import Derived.Test.YtblbiihpfjjhhaaGreatDoorJBCaptNames
import Derived.Test.YtblbiihpfjjhhaaGreatDoorJCCaptNames
import Derived.Test.YtblbiihpfjjhhaaGreatDoorNzCaptNamesLaw
import Derived.ProofKit
import Derived.OpenShut
import Derived.ShutString
import Derived.ChangeOld
import Derived.Below
import Derived.SizedLaws
import Derived.Test.YtblbiihpfjjhhaaGreatDoorTie
import Derived.Test.YtblbiihpfjjhhaaGreatDoorCards
import Derived.LaidMore
import Derived.Lay
import Derived.SevenTiedAt
import Derived.Stop.Joined
import Derived.SliceStrings
namespace Go.Proofs.YtblbiihpfjjhhaaGreatDoor.pCaptNames
open Go.ChangeShapes Go.WideShapes Go.ChangeAt Go.RowKit
open Go.ChangeMaps (open_string shut_string)
set_option linter.unusedVariables false

theorem sized_text {H : Type} {P : Program} {ts : List TypeId} {ds : List (DataW H)} (h : (DataW.weightsEach P ts ds).all (· ≤ reachBytes) = true) {j : Nat} {t e : TypeId} {ss : List ByteArray} {sp : List (DataW H)}
    (ht : ts[j]? = some t) (hd : ds[j]? = some (.slice (Go.ChangeShapes.strs ss) sp)) (hu : P.underlying t = some (.slice e)) (s : ByteArray) (hs : s ∈ ss) : s.size ≤ 140737488351232 := by
  have hw : ∀ (l : List (DataW H)) (y : DataW H), y ∈ l → ∀ n ∈ y.weights P e, n ∈ DataW.weightsAll P e l := by
    intro l
    induction l with
    | nil => intro y hy; cases hy
    | cons a l ih =>
      intro y hy n hn
      simp only [DataW.weightsAll, List.mem_append]
      rcases List.mem_cons.1 hy with rfl | hy
      · exact .inl hn
      · exact .inr (ih y hy n hn)
  have hmem : (DataW.lit (.string s.data.toList) : DataW H) ∈ (Go.ChangeShapes.strs ss : List (DataW H)) := List.mem_map.2 ⟨s, hs, rfl⟩
  have := of_decide_eq_true (List.all_eq_true.1 h s.data.toList.length (DataW.weights_mem_each ht hd _ (by
    simp only [DataW.weights, hu, List.mem_cons, List.mem_append]
    exact .inr (.inl (hw _ _ hmem _ (by simp [DataW.weights]))))))
  have e1 : s.data.toList.length = s.size := by rw [Array.length_toList]; rfl
  rw [e1] at this
  exact this
theorem own : ownKnob Tryz.prog.godebug = none := by kernel_rfl
theorem laidOut : laidOutB Tryz.prog = true := captNames_jf5

set_option maxRecDepth 100000 in
theorem lifted (os : Os) (started : os.Started) (H : Type) (enc : TypeId × Value → H) :
  ReturnsInHanded {} Tryz.checked os 4 .any (fun w args => (Rows.captNamesSpec.pre enc Tryz.prog Tryz.f4 Rows.captNamesRow.domain false w args ∧ laidMetH Tryz.prog Rows.captNamesRow.laid w) ∧ sizedMet enc Tryz.prog Tryz.f4 (OpenSpec.ofChange Rows.captNamesSpec) false w args)
   (Rows.captNamesSpec.post enc Tryz.prog Tryz.f4 false true false false) := by
 refine returnsInHanded_of_change_and (C := Tryz.checked) (X := fun w _ => laidMetH Tryz.prog Rows.captNamesRow.laid w) (fun _ _ _ hh h => h.of_heap hh) own started (by kernel_rfl) Tryz.func4
  (ChangeSpec.witness_shaped (enc := enc) (C := Tryz.checked) (os := os) (X := fun w _ => laidMetH Tryz.prog Rows.captNamesRow.laid w) false (World.laidAll Tryz.prog os Rows.captNamesRow.laid) #[.slice none 0 0, .string ByteArray.empty] 8 (World.laidAll_os _ _ _)
   (World.shaped_of_ZipB (by kernel_rfl) (by kernel_rfl)) (by kernel_rfl) (by kernel_rfl) (by kernel_rfl)
   (by rw [MakeChecks.laidMetH_plain _ _ _ (by kernel_rfl)]; exact laidMet_laidAll _ (by kernel_rfl) (by kernel_rfl))) ?_
 intro W base args ds gs before hval0 hW hcnd hsz0 _ _
 have hval : ∀ (j : Nat) t v, Tryz.f4.params[j]? = some t → args[j]? = some v → Value.okWide Tryz.prog W .any base t v := hval0
 have hsz : (DataW.weightsEach Tryz.prog (Tryz.f4.params.toList ++ Rows.captNamesSpec.plain.varTypes Tryz.prog) (ds ++ gs)).all (· ≤ reachBytes) = true := hsz0
 have hW' := hW
 obtain ⟨p, q, hA0, hV, rfl, hfz, hnd⟩ := hW
 have hA : DataW.TrodAll enc Tryz.prog W 0 (fun _ => true) true Tryz.f4.params.toList args.toList ds p := hA0
 rw [Tryz.params4] at hA hval hsz
 obtain ⟨v0, vs0, d0, ds0, p0, q0, hargs, rfl, rfl, h0, r0⟩ := trodAll_cons hA
 obtain ⟨v1, vs1, d1, ds1, p1, q1, rfl, rfl, rfl, h1, r1⟩ := trodAll_cons r0
 obtain ⟨rfl, rfl, rfl⟩ := trodAll_nil r1
 obtain rfl : args = #[v0, v1] := by cases args; simp_all
 obtain ⟨rfl, rfl⟩ := trodVars_none hV
 obtain ⟨a0, len0, cap0, rfl⟩ := okWide_slice Tryz.underlying39 (hval 0 39 v0 rfl rfl)
 have k0 := h0
 have lt0 : ∀ x ∈ p0, x.block < W.heap.size := by obtain ⟨m, hm⟩ := k0; exact DataW.trod_lt m _ _ _ hm
 obtain ⟨ss0, w0, z0⟩ : ∃ ss, IsStrs W a0 len0 cap0 ss ∧ ∀ j, j < len0 → (ss.getD j ByteArray.empty).size ≤ 140737488351232 := by
  obtain ⟨fuel, hf⟩ := h0
  rcases open_strings Tryz.underlying39 Tryz.underlying9 (by kernel_rfl) hf with ⟨hcs, _⟩ | ⟨x, l, c, zs, hcs, _, hl, hm, hz, hx, hcell, hwz⟩
  ·simp [Value.cells] at hcs
   obtain ⟨rfl, rfl, rfl⟩ := hcs
   exact ⟨[], .inl ⟨rfl, rfl, rfl, rfl⟩, fun j hj => absurd hj (Nat.not_lt_zero _)⟩
  ·simp [Value.cells] at hcs
   obtain ⟨rfl, rfl, rfl⟩ := hcs
   have hzl : len0 ≤ zs.length := by rw [hz]; split <;> omega
   refine ⟨zs, .inr ⟨_, rfl, hl, hm, by simpa using hz, hcell, hwz⟩, fun j hj => ?_⟩
   have hd := (Prod.mk.inj hx).1
   refine sized_text (j := 0) (t := 39) hsz rfl (congrArg some hd) Tryz.underlying39 _ ?_
   rw [List.getD_eq_getElem?_getD, List.getElem?_eq_getElem (by omega), Option.getD_some]
   exact List.mem_take_iff_getElem.2 ⟨j, by omega, rfl⟩
 obtain ⟨a1, rfl, rfl, rfl, w1⟩ := open_string Tryz.underlying9 (hval 1 9 v1 rfl rfl) h1
 have z1 : a1.size ≤ 140737488351232 := by
  have := sized_string hsz (j := 1) (t := 9) rfl rfl
  simpa [reachBytes] using this
 clear hA0 hval0
 refine (captNames_law a0 len0 cap0 ss0 a1 W w0 z0 z1).mono fun e W' ⟨he, bel⟩ => ?_
 subst he
 exact ⟨_, rfl, _, _, _, [], _, [], hW', trodAll_mk1 (shut_bool Tryz.underlying4 _), (trodAll_cons_mk (Below.trod laidOut (by kernel_rfl) (of_decide_eq_true (by kernel_rfl)) k0 bel lt0) (trodAll_cons_mk (shut_string Tryz.underlying9 w1) trodAll_mk0)), rfl, bel.frame _, fun h => by cases h⟩

/-- The row. -/
theorem row_holds : Rows.CaptNamesSaid :=
 OpenClaim.holds_of_wide 4 Tryz.f4 rfl rfl rfl rfl rfl rfl rfl ⟨rfl, rfl, rfl, rfl, rfl⟩ rfl rfl rfl rfl rfl (by kernel_rfl) Tryz.func4 captNames_joined
  (of_decide_eq_true (by kernel_rfl)) (by unfold Func.isWrapper; first | (rw [if_pos (by decide +kernel)]; kernel_rfl) | (rw [if_neg (by decide +kernel)]; exact ⟨rfl, rfl⟩))
  (fun os started H enc _ => lifted os started H enc)
/-- The statement: the card. -/
theorem proved : Rows.CaptNamesCardSaid :=
 Claim7.holds_tied_plain_at .later [] [.data, .pinned] true (true, "1215036dd0717c89e7fb90b68a9151822fb45e1be5ee308e688ec8fe34edce4e") true row_holds (fun _ h => by cases h) (by kernel_rfl) (fun _ h => by cases h) captNames_row_tie rfl ⟨rfl, rfl⟩ captNames_jg3 rfl
  (fun f fn hf hfn => by
   obtain rfl : f = 4 := Option.some.inj ((show Tryz.prog.funcNamed "bailiwick/bailiwicklaw15.CaptNames" = some 4 by kernel_rfl).symm.trans hf) |>.symm
   obtain rfl : fn = Tryz.f4 := (Option.some.inj (Tryz.func4.symm.trans hfn)).symm
   exact ⟨captNames_jg1, fun j t ht => by
    rw [Tryz.params4] at ht
    have hm : t ∈ [39, 9] := by simpa using Array.mem_of_getElem? ht
    have hall : ([39, 9].all fun u => !Tryz.prog.wantsStandIn u) = true := by kernel_rfl
    exact (show Tryz.prog.wantsStandIn t = false by simpa using List.all_eq_true.1 hall t hm)⟩)
  captNames_jg2
#print axioms proved
end Go.Proofs.YtblbiihpfjjhhaaGreatDoor.pCaptNames
