/-
  Proved here: the law ProtoOps of package bailiwicklaw21 returns true for every input, and leaves its arguments as they were. Conditions: none beyond the statement's own.
-/
import Derived.Test.YtemhlhcaahaecaaProtoOpsLaw
import Derived.ProofKit
import Derived.OpenShut
import Derived.ShutString
import Derived.ChangeOld
import Derived.Below
import Derived.SizedLaws
import Derived.SliceStrings
import Derived.Test.YtemhlhcaahaecaaOpenRec
namespace Go.Proofs.Ytemhlhcaahaecaa.pProtoOps
open Go.ChangeShapes Go.WideShapes Go.ChangeAt Go.RowKit
open Go.ChangeMaps (open_string shut_string)
set_option linter.unusedVariables false

theorem own : ownKnob Try.prog.godebug = none := by kernel_rfl
theorem laidOut : laidOutB Try.prog = true := by kernel_rfl

set_option maxRecDepth 100000 in
theorem lifted (os : Os) (started : os.Started) (H : Type) (enc : TypeId × Value → H) :
    ReturnsInHanded {} Try.checked os 5 .any (Rows.protoOpsSpec.pre6 enc Try.prog Try.f5 Rows.protoOpsRow.domain false) (Rows.protoOpsSpec.post enc Try.prog Try.f5 false true false false) := by
  refine returnsInHanded_of_change_sized (C := Try.checked) own started (by kernel_rfl) Try.func5
    (ChangeSpec.witness6 (enc := enc) (C := Try.checked) false ⟨#[], #[.int .i64 0, .agg #[.int .i64 0, .string ByteArray.empty, .string ByteArray.empty, .string ByteArray.empty, .int .i64 0, .int .i64 0, .int .i64 0, .int .i64 0, .int .i64 0, .int .i32 0, .bool false, .int .i64 0, .int .i64 0], .int .i64 0], []⟩ 8 (by kernel_rfl) (by kernel_rfl) (by kernel_rfl) (by kernel_rfl)) ?_
  intro W base args ds gs before hval0 hW hcnd hsz0 _
  have hval : ∀ (j : Nat) t v, Try.f5.params[j]? = some t → args[j]? = some v → Value.okWide Try.prog W .any base t v := hval0
  have hsz : (DataW.weightsEach Try.prog (Try.f5.params.toList ++ Rows.protoOpsSpec.plain.varTypes Try.prog) (ds ++ gs)).all (· ≤ reachBytes) = true := hsz0
  have hW' := hW
  obtain ⟨p, q, hA0, hV, rfl, hfz, hnd⟩ := hW
  have hA : DataW.TrodAll enc Try.prog W 0 (fun _ => true) true Try.f5.params.toList args.toList ds p := hA0
  rw [Try.params5] at hA hval hsz
  obtain ⟨v0, vs0, d0, ds0, p0, q0, hargs, rfl, rfl, h0, r0⟩ := trodAll_cons hA
  obtain ⟨v1, vs1, d1, ds1, p1, q1, rfl, rfl, rfl, h1, r1⟩ := trodAll_cons r0
  obtain ⟨v2, vs2, d2, ds2, p2, q2, rfl, rfl, rfl, h2, r2⟩ := trodAll_cons r1
  obtain ⟨rfl, rfl, rfl⟩ := trodAll_nil r2
  obtain rfl : args = #[v0, v1, v2] := by cases args; simp_all
  obtain ⟨rfl, rfl⟩ := trodVars_none hV
  obtain ⟨a0, rfl, rfl, rfl, w0⟩ := open_int Try.underlying3 (hval 0 3 v0 rfl rfl) h0
  have k1 := h1
  have lt1 : ∀ x ∈ p1, x.block < W.heap.size := by obtain ⟨m, hm⟩ := k1; exact DataW.trod_lt m _ _ _ hm
  obtain ⟨c1_0, c1_1, c1_2, c1_3, c1_4, c1_5, c1_6, c1_7, c1_8, c1_9, c1_10, c1_11, c1_12, y1_0, y1_1, y1_2, y1_3, y1_4, y1_5, y1_6, y1_7, y1_8, y1_9, y1_10, y1_11, y1_12, m1, rfl, rfl, rfl, g1_0, g1_1, g1_2, g1_3, g1_4, g1_5, g1_6, g1_7, g1_8, g1_9, g1_10, g1_11, g1_12⟩ := openR13 Try.underlying34 (by kernel_rfl) (by kernel_rfl : Try.prog.cellsOf 34 = 13) (hval 1 34 v1 rfl rfl) h1
  obtain ⟨a1_0, e1_0, rfl, w1_0⟩ := DataW.trod_int Try.underlying3 g1_0
  obtain rfl := (List.cons.inj e1_0).1
  obtain ⟨a1_1, e1_1, rfl, w1_1⟩ := DataW.trod_string Try.underlying9 g1_1
  obtain rfl := (List.cons.inj e1_1).1
  have z1_1 : a1_1.size ≤ 140737488351232 := by
    have := sized_field hsz (j := 1) (t := 34) rfl rfl Try.underlying34 (k := 1) (u := 9) rfl rfl
    simpa [reachBytes] using this
  obtain ⟨a1_2, e1_2, rfl, w1_2⟩ := DataW.trod_string Try.underlying9 g1_2
  obtain rfl := (List.cons.inj e1_2).1
  have z1_2 : a1_2.size ≤ 140737488351232 := by
    have := sized_field hsz (j := 1) (t := 34) rfl rfl Try.underlying34 (k := 2) (u := 9) rfl rfl
    simpa [reachBytes] using this
  obtain ⟨a1_3, e1_3, rfl, w1_3⟩ := DataW.trod_string Try.underlying9 g1_3
  obtain rfl := (List.cons.inj e1_3).1
  have z1_3 : a1_3.size ≤ 140737488351232 := by
    have := sized_field hsz (j := 1) (t := 34) rfl rfl Try.underlying34 (k := 3) (u := 9) rfl rfl
    simpa [reachBytes] using this
  obtain ⟨a1_4, e1_4, rfl, w1_4⟩ := DataW.trod_int Try.underlying3 g1_4
  obtain rfl := (List.cons.inj e1_4).1
  obtain ⟨a1_5, e1_5, rfl, w1_5⟩ := DataW.trod_int Try.underlying3 g1_5
  obtain rfl := (List.cons.inj e1_5).1
  obtain ⟨a1_6, e1_6, rfl, w1_6⟩ := DataW.trod_int Try.underlying3 g1_6
  obtain rfl := (List.cons.inj e1_6).1
  obtain ⟨a1_7, e1_7, rfl, w1_7⟩ := DataW.trod_int Try.underlying3 g1_7
  obtain rfl := (List.cons.inj e1_7).1
  obtain ⟨a1_8, e1_8, rfl, w1_8⟩ := DataW.trod_int Try.underlying3 g1_8
  obtain rfl := (List.cons.inj e1_8).1
  obtain ⟨a1_9, e1_9, rfl, w1_9⟩ := DataW.trod_int Try.underlying21 g1_9
  obtain rfl := (List.cons.inj e1_9).1
  obtain ⟨a1_10, e1_10, rfl⟩ := DataW.trod_bool Try.underlying4 g1_10
  obtain rfl := (List.cons.inj e1_10).1
  obtain ⟨a1_11, e1_11, rfl, w1_11⟩ := DataW.trod_int Try.underlying3 g1_11
  obtain rfl := (List.cons.inj e1_11).1
  obtain ⟨a1_12, e1_12, rfl, w1_12⟩ := DataW.trod_int Try.underlying3 g1_12
  obtain rfl := (List.cons.inj e1_12).1
  obtain ⟨a2, rfl, rfl, rfl, w2⟩ := open_int Try.underlying3 (hval 2 3 v2 rfl rfl) h2
  clear hA0 hval0
  refine (protoOps_law a0 a1_0 a1_1 a1_2 a1_3 a1_4 a1_5 a1_6 a1_7 a1_8 a1_9 a1_10 a1_11 a1_12 a2 W w0 w1_0 z1_1 z1_2 z1_3 w1_4 w1_5 w1_6 w1_7 w1_8 w1_9 w1_11 w1_12 w2).mono fun e W' ⟨he, bel⟩ => ?_
  subst he
  exact ⟨_, rfl, _, _, _, [], _, [], hW', trodAll_mk1 (shut_bool Try.underlying4 _), (trodAll_cons_mk (shut_int Try.underlying3 w0) (trodAll_cons_mk (Below.trod laidOut (by kernel_rfl) (of_decide_eq_true (by kernel_rfl)) k1 bel lt1) (trodAll_cons_mk (shut_int Try.underlying3 w2) trodAll_mk0))), rfl, bel.frame _, fun h => by cases h⟩

/-- The statement. -/
theorem proved : Rows.ProtoOpsSaid :=
  OpenClaim.holds_of_wide 5 Try.f5 rfl rfl rfl rfl rfl rfl rfl ⟨rfl, rfl, rfl, rfl, rfl⟩ rfl rfl rfl rfl rfl (by kernel_rfl) Try.func5 (by kernel_rfl)
    (of_decide_eq_true (by kernel_rfl)) (by unfold Func.isWrapper; first | (rw [if_pos (by decide +kernel)]; kernel_rfl) | (rw [if_neg (by decide +kernel)]; exact ⟨rfl, rfl⟩))
    (fun os started H enc _ => lifted os started H enc)
#print axioms proved
end Go.Proofs.Ytemhlhcaahaecaa.pProtoOps
