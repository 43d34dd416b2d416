/-
  Rows of the call's own: turned into texts; kept beside a string's iterator; grown by one element.
-/
import Derived.Test.YtlbnakoaflladaaSup
import Derived.Lib.OthersKept
import Derived.Laws.Cover4
namespace Go.Proofs.Ytlbnakoaflladaa
open Go.RowKit
set_option linter.unusedVariables false

theorem own_cells {w : World} {base : Nat} {e : TypeId} {v : Value} {n : Nat} {xs : List Value} (h : w.ownsRow base e 1 v n xs) :
    (v = .slice none 0 0 ∧ xs = []) ∨ ∃ g cap, v = .slice (some ⟨g, 0, none⟩) xs.length cap ∧ xs.length = n ∧ ∀ j u, xs[j]? = some u → w.cell? ((⟨g, 0, none⟩ : Addr).add j) = some u := by
  have hl : xs.length = n := by have := h.1; omega
  rcases h.2 with ⟨rfl, h0⟩ | ⟨g, cap, cur, hv, hb, hh, hn, hc, hs, ht⟩
  · exact .inl ⟨rfl, List.eq_nil_of_length_eq_zero (by omega)⟩
  · refine .inr ⟨g, cap, by rw [hl]; exact hv, hl, h.cells (by rw [hv]; rfl)⟩
theorem own_iterAt {w : World} {base : Nat} {e : TypeId} {v : Value} {n : Nat} {xs : List Value} (h : w.ownsRow base e 1 v n xs) {k : Nat} {s : ByteArray} {p : Nat} (hk : w.heap[k]? = some (.stringIter s p)) (q : Nat) :
    (w.iterAt k s q).ownsRow base e 1 v n xs := by
  refine ⟨h.1, ?_⟩
  rcases h.2 with h | ⟨g, cap, cur, hv, hb, hh, r⟩
  · exact .inl h
  · refine .inr ⟨g, cap, cur, hv, hb, ?_, r⟩
    rw [Lib.iterAt_other _ _ _ _ _ ?_]
    · exact hh
    · rintro rfl
      rw [hk] at hh; cases hh
/-- A block that holds no cells stands, whatever row of cells is grown. -/
theorem iter_kept {w w' : World} {base : Nat} {e : TypeId} {v : Value} {n : Nat} {xs : List Value} (h : w.ownsRow base e 1 v n xs) (hg : w.grownBy w' v.ownBlock) {k : Nat} {s : ByteArray} {p : Nat} (hk : w.heap[k]? = some (.stringIter s p)) :
    w'.heap[k]? = some (.stringIter s p) := by
  have hlt : k < w.heap.size := (Array.getElem?_eq_some_iff.1 hk).1
  rw [hg.block k hlt ?_]
  · exact hk
  · intro he
    rcases h.2 with ⟨rfl, _⟩ | ⟨g, cap, cur, rfl, hb, hh, r⟩
    · cases he
    · simp only [Value.ownBlock, Option.some.injEq] at he
      subst he
      rw [hk] at hh; cases hh
theorem conv_bytes_own {w : World} {base : Nat} {v : Value} {n : Nat} (xs : List UInt8) (h : w.ownsRow base 5 1 v n (xs.map fun b => .int .u8 (b.toNat : Int))) :
    (convert 88 9 v).run Try.prog w = .ok (.string (Str xs)) w := by
  rcases own_cells h with ⟨rfl, hx⟩ | ⟨g, cap, hv, hl, hc⟩
  · have : xs = [] := by simpa using hx
    subst this
    exact run_convert_bytes_nil (P := Try.prog) w 88 5 Try.underlying88 Try.underlying5 0 0 9 Try.underlying9
  · rw [hv, List.length_map]
    exact run_convert_bytes_back (P := Try.prog) w 88 9 5 ⟨g, 0, none⟩ cap xs Try.underlying88 Try.underlying5 Try.underlying9 (fun j hj => hc j _ (by simp [List.getElem?_eq_getElem hj]))
theorem runes_nil (w : World) (c : Nat) : (Conv.runesToString (.slice none 0 c)).run Try.prog w = .ok (.string ByteArray.empty) w := by simp [Conv.runesToString]
theorem conv_runes_own {w : World} {base : Nat} {v : Value} {n : Nat} (xs : List Int) (h : w.ownsRow base 21 1 v n (xs.map fun b => .int .i32 b)) :
    (convert 81 9 v).run Try.prog w = .ok (.string (runesBytes xs)) w := by
  rcases own_cells h with ⟨rfl, hx⟩ | ⟨g, cap, hv, hl, hc⟩
  · have : xs = [] := by simpa using hx
    subst this
    rw [run_convert_runes_string (P := Try.prog) w 81 9 21 none 0 0 Try.underlying81 Try.underlying21 Try.underlying9]
    exact runes_nil w 0
  · rw [hv, run_convert_runes_string (P := Try.prog) w 81 9 21 _ _ _ Try.underlying81 Try.underlying21 Try.underlying9]
    have := run_loadCells_list (P := Try.prog) w ⟨g, 0, none⟩ _ hc
    exact run_runesToString (P := Try.prog) w _ _ _ _ this
theorem encode_ascii (n : Nat) (h : n < 128) : Utf8.encode (n : Int) = Str [UInt8.ofNat n] := by
  have hv : Utf8.valid (n : Int) = true := by simp [Utf8.valid]; omega
  simp only [Utf8.encode, hv, if_true, Int.toNat_natCast, h]
  rfl
theorem runes_ascii (l : List Nat) (h : ∀ n ∈ l, n < 128) : runesBytes (l.map fun (n : Nat) => (n : Int)) = Str (l.map UInt8.ofNat) := by
  suffices hh : ∀ (l : List Nat) (h : ∀ n ∈ l, n < 128) (a : List UInt8), (l.map fun (n : Nat) => (n : Int)).foldl (fun r n => r ++ Utf8.encode n) (Str a) = Str (a ++ l.map UInt8.ofNat) by
    have := hh l h []
    rw [List.nil_append] at this
    exact this
  intro l
  induction l with
  | nil => intro _ a; simp
  | cons n l ih =>
    intro h a
    simp only [List.map_cons, List.foldl_cons]
    rw [encode_ascii n (h n (by simp)), Str_append, Str_list, ih (fun m hm => h m (by simp [hm]))]
    simp
end Go.Proofs.Ytlbnakoaflladaa
