/-
  Package shadow: a store in memory; one that is opened, made, found.
-/
import Derived.Test.YtbjmbndeaobbeaaDoorShOpen
import Derived.Test.YtbjmbndeaobbeaaDoorBitsNew
namespace Go.Proofs.YtbjmbndeaobbeaaDoor
open Go.RowKit
set_option linter.unusedVariables false
set_option linter.unusedSimpArgs false
/-- A store, apart from its disk: the head that counts, what is fresh, what is given; has the power been there? -/
structure ShS where
  h : HdS
  fresh : List Int
  given : List Int
  up : Bool
structure HdOk (h : HdS) : Prop where
  g0 : 0 ≤ h.gen
  g1 : h.gen ≤ 281474976710655
  r0 : 0 ≤ h.root
  r1 : h.root ≤ 281474976710655
  u : h.used.size = 80
structure StoIn (w : World) (s d f g : Nat) (st : ShS) : Prop where
  cell : w.heap[s]? = some (.cells #[.pointer (some ⟨d, 0, none⟩), .int .i64 st.h.gen, .int .i64 st.h.root, .string st.h.used, .map (some f), .map (some g), .bool st.up] 58)
  fr : SetI w f st.fresh
  gv : SetI w g st.given
  sf : s ≠ f
  sg : s ≠ g
  fg : f ≠ g
  ok : HdOk st.h
  fb : ∀ x ∈ st.fresh, 2 ≤ x ∧ x < 640
  gb : ∀ x ∈ st.given, 2 ≤ x ∧ x < 640
def StoF (s f g : Nat) (k : Nat) : Prop := k = s ∨ k = f ∨ k = g
def Sto (w : World) (s d : Nat) (st : ShS) (F : Nat → Prop) : Prop := ∃ f g, StoIn w s d f g st ∧ ∀ k, F k ↔ StoF s f g k
theorem StoIn.lt {w : World} {s d f g : Nat} {st : ShS} (h : StoIn w s d f g st) (k : Nat) (hk : StoF s f g k) : k < w.heap.size := by
  rcases hk with rfl | rfl | rfl
  · exact (Array.getElem?_eq_some_iff.1 h.cell).1
  · exact h.fr.lt
  · exact h.gv.lt
theorem StoIn.kept {w w' : World} {s d f g : Nat} {st : ShS} (h : StoIn w s d f g st) (hk : ∀ k, StoF s f g k → w'.heap[k]? = w.heap[k]?) : StoIn w' s d f g st :=
  { h with
    cell := (hk s (.inl rfl)).trans h.cell
    fr := h.fr.kept (hk f (.inr (.inl rfl)))
    gv := h.gv.kept (hk g (.inr (.inr rfl))) }
theorem Sto.lt {w : World} {s d : Nat} {st : ShS} {F : Nat → Prop} (h : Sto w s d st F) (k : Nat) (hk : F k) : k < w.heap.size := by
  obtain ⟨f, g, hi, he⟩ := h
  exact hi.lt k ((he k).1 hk)
theorem Sto.frm {w w' : World} {s d : Nat} {st : ShS} {F G : Nat → Prop} (h : Sto w s d st F) (hf : Frm G w w') (hd : ∀ k, F k → ¬ G k) : Sto w' s d st F := by
  obtain ⟨f, g, hi, he⟩ := h
  exact ⟨f, g, hi.kept fun k hk => hf.block k (hi.lt k hk) (hd k ((he k).2 hk)), he⟩
theorem Sto.below {w w' : World} {s d : Nat} {st : ShS} {F : Nat → Prop} (h : Sto w s d st F) (hb : Below w.heap.size w w') : Sto w' s d st F :=
  h.frm (G := fun _ => False) (Frm.of_below hb) fun _ _ hx => hx
def ShS.new (h : HdS) : ShS := ⟨h, [], [], true⟩
/-- A store of the call's own is handed back. -/
def Opened (w : World) (d : Nat) (st : ShS) (w0 : World) (v : Value) : Prop := ∃ s F, v = .pointer (some ⟨s, 0, none⟩) ∧ Sto w s d st F ∧ ∀ k, F k → w0.heap.size ≤ k
set_option maxHeartbeats 3200000 in
set_option maxRecDepth 20000 in
theorem open_is (w : World) (d : Nat) (h : HdS) (hok : HdOk h) :
    Calls Tryd.prog 38 #[.pointer (some ⟨d, 0, none⟩), hdV h] w fun e w' => ∃ v, e = .returned v ∧ Opened w' d (ShS.new h) w v ∧ Below w.heap.size w w' := by
  have hmk : ∀ w', (Instr.makeMap 56 none).run Tryd.prog w' = .ok (.map (some w'.heap.size)) (w'.alloc (.map #[] 0)) := fun w' => by simp [Instr.makeMap]
  obtain ⟨W, hW⟩ : ∃ W, (((w.alloc (.cells #[.int .i64 h.gen, .int .i64 h.root, .string h.used] 54)).alloc (.map #[] 0)).alloc (.map #[] 0)).alloc (.cells #[.pointer (some ⟨d, 0, none⟩), .int .i64 h.gen, .int .i64 h.root, .string h.used, .map (some (w.heap.size + 1)), .map (some (w.heap.size + 1 + 1)), .bool true] 58) = W := ⟨_, rfl⟩
  have s1 : (w.alloc (.cells #[.int .i64 h.gen, .int .i64 h.root, .string h.used] 54)).heap.size = w.heap.size + 1 := by simp
  have s2 : ((w.alloc (.cells #[.int .i64 h.gen, .int .i64 h.root, .string h.used] 54)).alloc (.map #[] 0)).heap.size = w.heap.size + 1 + 1 := by simp
  have s3 : (((w.alloc (.cells #[.int .i64 h.gen, .int .i64 h.root, .string h.used] 54)).alloc (.map #[] 0)).alloc (.map #[] 0)).heap.size = w.heap.size + 1 + 1 + 1 := by simp
  have X1 : W.heap[w.heap.size + 1]? = some (.map #[] 0) := by
    rw [← hW, ← s1]; exact (heap_alloc_old _ _ (by rw [s3]; omega)).trans ((heap_alloc_old _ _ (by rw [s2]; omega)).trans (heap_alloc_new _ _))
  have X2 : W.heap[w.heap.size + 1 + 1]? = some (.map #[] 0) := by
    rw [← hW, ← s2]; exact (heap_alloc_old _ _ (by rw [s3]; omega)).trans (heap_alloc_new _ _)
  have X3 : W.heap[w.heap.size + 1 + 1 + 1]? = some (.cells #[.pointer (some ⟨d, 0, none⟩), .int .i64 h.gen, .int .i64 h.root, .string h.used, .map (some (w.heap.size + 1)), .map (some (w.heap.size + 1 + 1)), .bool true] 58) := by
    rw [← hW, ← s3]; exact heap_alloc_new _ _
  have BW : Below w.heap.size w W := by
    rw [← hW]; exact ((((Below.refl _ _).alloc (Nat.le_refl _) _).alloc (by rw [s1]; omega) _).alloc (by rw [s2]; omega) _).alloc (by rw [s3]; omega) _
  have FIN : Hid (Opened W d (ShS.new h) w (.pointer (some ⟨w.heap.size + 1 + 1 + 1, 0, none⟩)) ∧ Below w.heap.size w W) := Lib.hid
    ⟨⟨w.heap.size + 1 + 1 + 1, StoF (w.heap.size + 1 + 1 + 1) (w.heap.size + 1) (w.heap.size + 1 + 1), rfl, ⟨_, _, ⟨X3, ⟨#[], 0, X1, rfl, MapKept.stamped_empty 0⟩, ⟨#[], 0, X2, rfl, MapKept.stamped_empty 0⟩, by omega, by omega, by omega, hok, (fun x hx => by cases hx), fun x hx => by cases hx⟩, fun k => Iff.rfl⟩, fun k hk => by
      rcases hk with rfl | rfl | rfl <;> omega⟩, BW⟩
  have HW := Lib.hid hW
  unfold hdV
  clear s1 s2 s3 X1 X2 X3 BW hW hok
  go_enter Tryd.func38, Tryd.ntmps38
  go_wp2_with fail
  go_ret
  first | rw [HW.out] | skip
  exact ⟨_, rfl, FIN.out.1, FIN.out.2⟩
end Go.Proofs.YtbjmbndeaobbeaaDoor
