/-
  A slice of deeds that comes in, opened.
-/
import Derived.Test.YteaiiiikehimgaaDiskPlaysLaw
import Derived.Deep.SlicePairs
import Derived.Deep.Fields
import Derived.OpenShut
namespace Go.Proofs.Yteaiiiikehimgaa
open Go.RowKit Go.ChangeShapes Go.WideShapes Go.Deep
set_option linter.unusedVariables false
section
variable {H : Type} {enc : TypeId × Value → H} {w : World} {base : Nat} {held : Bool}
theorem open_deeds {fuel : Nat} {cs : List Value} {x : DataW H × List MemPlace} (h : DataW.trod enc Try.prog w base (fun _ => true) held fuel 22 cs = some x) :
    cs = [.slice none 0 0] ∨ ∃ (a : Addr) (len cap : Nat), cs = [.slice (some a) len cap] ∧ len ≤ cap ∧ cap ≤ maxLen ∧ ∀ i, i < len → DeedAt w a i := by
  rcases open_slice Try.underlying22 h with ⟨h0, _⟩ | ⟨a, len, cap, m, n, D, Pl, rfl, hb, hl, hm, hmm, rfl, hx⟩
  · exact .inl h0
  refine .inr ⟨a, len, cap, rfl, hl, hm, fun i hi => ?_⟩
  have hlm : len ≤ m := by rw [hmm]; split <;> omega
  obtain ⟨cs', h1, h2⟩ := hx i (by omega)
  have ce : Try.prog.cellsOf 31 = 5 := by kernel_rfl
  rw [ce] at h1
  obtain ⟨_, hlen, hcell⟩ := World.cells?_some h1
  obtain ⟨xs, k, hk, hxy, _, hxl, hf⟩ := DataW.trod_struct Try.underlying31 h2
  match xs, hxl, cs', hlen with
  | [y0, y1, y2, y3, y4], _, [v0, v1, v2, v3, v4], _ =>
    have g0 : DataW.trod enc Try.prog w base (fun _ => true) held k 3 [v0] = some y0 := hf 0 _ rfl
    have g1 : DataW.trod enc Try.prog w base (fun _ => true) held k 3 [v1] = some y1 := hf 1 _ rfl
    have g2 : DataW.trod enc Try.prog w base (fun _ => true) held k 9 [v2] = some y2 := hf 2 _ rfl
    have g3 : DataW.trod enc Try.prog w base (fun _ => true) held k 3 [v3] = some y3 := hf 3 _ rfl
    have g4 : DataW.trod enc Try.prog w base (fun _ => true) held k 29 [v4] = some y4 := hf 4 _ rfl
    have e0 := hcell 0 (by omega)
    have e1 := hcell 1 (by omega)
    have e2 := hcell 2 (by omega)
    have e3 := hcell 3 (by omega)
    have e4 := hcell 4 (by omega)
    obtain ⟨kd, d0, _, w0⟩ := DataW.trod_int Try.underlying3 g0
    obtain ⟨at_, d1, _, w1⟩ := DataW.trod_int Try.underlying3 g1
    obtain ⟨s, d2, _, w2⟩ := DataW.trod_string Try.underlying9 g2
    obtain ⟨nn, d3, _, w3⟩ := DataW.trod_int Try.underlying3 g3
    obtain rfl := (List.cons.inj d0).1
    obtain rfl := (List.cons.inj d1).1
    obtain rfl := (List.cons.inj d2).1
    obtain rfl := (List.cons.inj d3).1
    have key : ∃ ka klen kcap zs, v4 = .slice ka klen kcap ∧ IsInts .i64 w ka klen kcap zs := by
      rcases open_ints Try.underlying29 Try.underlying3 (by kernel_rfl) g4 with ⟨hcs, _⟩ | ⟨b, l, c, zs, hcs, _, hl, hm, hz, _, hcl, hwz⟩
      · exact ⟨none, 0, 0, [], (List.cons.inj hcs).1, .inl ⟨rfl, rfl, rfl, rfl⟩⟩
      · refine ⟨some b, l, c, zs, (List.cons.inj hcs).1, .inr ⟨_, rfl, hl, hm, ?_, hcl, hwz⟩⟩
        simpa using hz
    obtain ⟨ka, klen, kcap, zs, rfl, hzs⟩ := key
    exact ⟨kd, at_, s, nn, ka, klen, kcap, zs, e0, e1, e2, e3, e4, i64_range kd w0, by unfold maxLen at w2; omega, i64_range nn w3, hzs⟩
end
end Go.Proofs.Yteaiiiikehimgaa
