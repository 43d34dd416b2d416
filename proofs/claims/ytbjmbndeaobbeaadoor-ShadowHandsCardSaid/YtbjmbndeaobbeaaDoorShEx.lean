/-
  The law's example of a store, in the model.
-/
import Derived.Test.YtbjmbndeaobbeaaDoorShM7
import Derived.Test.YtbjmbndeaobbeaaDoorDiskFacts
namespace Go.Proofs.YtbjmbndeaobbeaaDoor
open Go.RowKit
set_option linter.unusedVariables false
set_option linter.unusedSimpArgs false
def exD0 : DkS := DkS.fresh 8
def exD1 : DkS := (wrHead exD0 fmtH).1
def exS1 : ShS := { ShS.new fmtH with fresh := (ShS.new fmtH).fresh ++ [2] }
def exD2 : DkS := (exS1.write exD1 2 2 ⟨#[120]⟩).1
def exS2 : ShS := (exS1.write exD1 2 2 ⟨#[120]⟩).2.1
def exD3 : DkS := (exS2.commit exD2 2).1
set_option maxRecDepth 100000 in
theorem ex_a : mountE exD0 = 3 := by decide +kernel
set_option maxRecDepth 100000 in
theorem ex_b : (wrHead exD0 fmtH).2 = 0 := by decide +kernel
set_option maxRecDepth 100000 in
theorem ex_c : freeB (ShS.new fmtH) 2 = true ∧ exD1.S.length = 8 := by decide +kernel
set_option maxRecDepth 100000 in
theorem ex_d : (exS1.write exD1 2 2 ⟨#[120]⟩).2.2 = 0 := by decide +kernel
set_option maxRecDepth 100000 in
theorem ex_e : (exS2.commit exD2 2).2.2 = 0 := by decide +kernel
set_option maxRecDepth 100000 in
theorem ex_f : mountE exD3 = 0 ∧ (lastH exD3).1.root = 2 ∧ (lastH exD3).1.gen = 2 := by decide +kernel
end Go.Proofs.YtbjmbndeaobbeaaDoor
