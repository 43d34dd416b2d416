/-
  What is loose, and what a crash leaves, by flags.
-/
import Derived.Test.YteaiiiikehimgaaDiskTwice
namespace Go.Proofs.Yteaiiiikehimgaa
open Go.RowKit
set_option linter.unusedVariables false
set_option linter.unusedSimpArgs false
def InvT (st : DkS) (M : List Bool) : Prop := st.up = true ∧ st.fuse = -1 ∧ st.S.length = 10 ∧ M.length = 10 ∧ (∀ k, k < 10 → (M.getD k false = true ↔ k ∈ st.L.map (·.1))) ∧ ∀ k, k < 10 → M.getD k false = false → st.S.getD k [] = zs
theorem getD_set {α : Type} (l : List α) (k j : Nat) (a e : α) (hk : k < l.length) : (l.set k a).getD j e = if j = k then a else l.getD j e := by
  rw [List.getD_eq_getElem?_getD, List.getD_eq_getElem?_getD, List.getElem?_set]
  by_cases h : j = k
  · subst h
    simp [hk]
  · rw [if_neg (Ne.symm h), if_neg h]
theorem invT_zero : InvT (DkS.fresh 10) (List.replicate 10 false) := by
  refine ⟨rfl, rfl, List.length_replicate, List.length_replicate, fun k hk => ?_, fun k hk _ => ?_⟩
  · rw [List.getD_eq_getElem?_getD, List.getElem?_replicate, if_pos hk]
    simp [DkS.fresh]
  · show (List.replicate 10 zs).getD k [] = zs
    rw [List.getD_eq_getElem?_getD, List.getElem?_replicate, if_pos hk]
    rfl
theorem invT_step (st : DkS) (M : List Bool) (h : InvT st M) (k : Nat) (hk : k < 10) (T : List UInt8) (hT : T.length = 256) :
    (st.write (k : Int) T).2 = 0 ∧ InvT (st.write (k : Int) T).1 (M.set k true) ∧ (M.getD k false = true → (st.write (k : Int) T).1.L.map (·.1) = st.L.map (·.1)) ∧ (M.getD k false = false → (st.write (k : Int) T).1.L.map (·.1) = st.L.map (·.1) ++ [k]) := by
  obtain ⟨h1, h2, h3, h4, h5, h6⟩ := h
  rw [write_done st k T h1 (by omega) hT (by omega)]
  have hany : (st.L.any fun p => p.1 == k) = M.getD k false := by
    rw [Bool.eq_iff_iff, h5 k hk, List.any_eq_true, List.mem_map]
    constructor
    · rintro ⟨p, hp, he⟩
      exact ⟨p, hp, by simpa using he⟩
    · rintro ⟨p, hp, he⟩
      exact ⟨p, hp, by simpa using he⟩
  have hL : (st.wrote k T).L.map (·.1) = if M.getD k false = true then st.L.map (·.1) else st.L.map (·.1) ++ [k] := by
    rw [wrote_L, hany]
    split
    · rfl
    · rw [List.map_append]; rfl
  refine ⟨rfl, ⟨by rw [wrote_up]; exact h1, by rw [wrote_fuse, h2]; rfl, by rw [wrote_S, List.length_set]; exact h3, by rw [List.length_set]; exact h4, fun j hj => ?_, fun j hj hm => ?_⟩, fun hm => ?_, fun hm => ?_⟩
  · rw [hL, getD_set M k j true false (by omega)]
    by_cases he : j = k
    · subst he
      rw [if_pos rfl]
      by_cases hb : M.getD j false = true
      · rw [if_pos hb]
        exact ⟨fun _ => (h5 j hj).1 hb, fun _ => rfl⟩
      · rw [if_neg hb]
        exact ⟨fun _ => by simp, fun _ => rfl⟩
    · rw [if_neg he, h5 j hj]
      split
      · exact Iff.rfl
      · rw [List.mem_append, List.mem_singleton]
        exact ⟨.inl, fun hx => hx.resolve_right he⟩
  · rw [getD_set M k j true false (by omega)] at hm
    by_cases he : j = k
    · rw [if_pos he] at hm; cases hm
    · rw [if_neg he] at hm
      rw [wrote_S, getD_set st.S k j T [] (by omega), if_neg he]
      exact h6 j hj hm
  · show (st.wrote k T).L.map (·.1) = _
    rw [hL, if_pos hm]
  · show (st.wrote k T).L.map (·.1) = _
    rw [hL, if_neg (by rw [hm]; decide)]
theorem rsT_off (S : List (List UInt8)) (L : List (Nat × List UInt8)) (ks : List Int) (k : Nat) (hk : k ∉ L.map (·.1)) : ∀ n, n ≤ L.length → (rsT S L ks n).getD k [] = S.getD k []
  | 0, _ => rfl
  | n + 1, hn => by
    have ih := rsT_off S L ks k hk n (by omega)
    unfold rsT
    split
    · have hne : (L.getD n (0, [])).1 ≠ k := by
        intro e
        apply hk
        rw [List.getD_eq_getElem?_getD, List.getElem?_eq_getElem (by omega)] at e
        exact List.mem_map.2 ⟨L[n], List.getElem_mem _, e⟩
      rw [List.getD_eq_getElem?_getD, List.getElem?_set, if_neg hne, ← List.getD_eq_getElem?_getD]
      exact ih
    · exact ih
/-- Behind a crash. -/
def InvE (st : DkS) (M : List Bool) : Prop := st.up = true ∧ st.fuse = -1 ∧ st.S.length = 10 ∧ st.L = [] ∧ M.length = 10 ∧ ∀ k, k < 10 → M.getD k false = false → st.S.getD k [] = zs
theorem invT_crash (st : DkS) (M : List Bool) (h : InvT st M) (ks : List Int) : InvE (st.crash ks) M := by
  obtain ⟨h1, h2, h3, h4, h5, h6⟩ := h
  refine ⟨rfl, rfl, ?_, rfl, h4, fun k hk hm => ?_⟩
  · show (rsT st.S st.L ks st.L.length).length = 10
    rw [rsT_len]; exact h3
  · show (rsT st.S st.L ks st.L.length).getD k [] = zs
    rw [rsT_off st.S st.L ks k (fun hx => by rw [(h5 k hk).2 hx] at hm; cases hm) _ (Nat.le_refl _)]
    exact h6 k hk hm
theorem invE_crash (st : DkS) (M : List Bool) (h : InvE st M) (ks : List Int) : st.crash ks = st := by
  obtain ⟨h1, h2, h3, h4, _, _⟩ := h
  cases st
  simp only at h1 h2 h4
  subst h1 h2 h4
  rfl
theorem invE_read (st : DkS) (M : List Bool) (h : InvE st M) (j : Nat) (hj : j < 10) : st.read (j : Int) = (st.S.getD j [], 0) := by
  rw [read_done st j h.1 (by rw [h.2.2.1]; exact hj), List.getD_eq_getElem?_getD, List.getElem?_eq_getElem (by rw [h.2.2.1]; exact hj)]
  rfl
/-- So much of what is read again is kept. -/
def WasT (st : DkS) (W : List ByteArray) (n : Nat) : Prop := W.length = 10 ∧ ∀ j, j < n → W[j]? = some (Str (st.S.getD j []))
theorem wasT_zero (st : DkS) : WasT st (List.replicate 10 ⟨#[]⟩) 0 := ⟨List.length_replicate, fun _ h => by omega⟩
theorem wasT_step (st : DkS) (W : List ByteArray) (n : Nat) (hn : n < 10) (h : WasT st W n) : WasT st (W.set n (Str (st.S.getD n []))) (n + 1) := by
  refine ⟨by rw [List.length_set]; exact h.1, fun j hj => ?_⟩
  rw [List.getElem?_set]
  by_cases he : n = j
  · subst he
    rw [if_pos rfl, if_pos (by rw [h.1]; exact hn)]
  · rw [if_neg he]
    exact h.2 j (by omega)
/-- The disk, the flags, the row of what was read. -/
structure LateT (w wr : World) (d gm g : Nat) (st : DkS) (M : List Bool) (W : List ByteArray) : Prop where
  dk : DkG w wr (fun k => k = gm ∨ k = g) d st
  fl : Bls 51 wr gm M
  tx : Txs 53 wr g W
  mg : w.heap.size ≤ gm
  mo : w.heap.size ≤ g
  ne : gm ≠ g
theorem LateT.keep {w wr w' : World} {d gm g : Nat} {st st' : DkS} {M : List Bool} {W : List ByteArray} (h : LateT w wr d gm g st M W) (hd : DkG w w' (fun k => k = gm ∨ k = g) d st') (hk : KeptR (fun k => k = gm ∨ k = g) wr w') : LateT w w' d gm g st' M W :=
  ⟨hd, h.fl.kept (hk gm (.inl rfl)), h.tx.kept (hk g (.inr rfl)), h.mg, h.mo, h.ne⟩
theorem LateT.step {w wr w' : World} {d gm g : Nat} {st : DkS} {M : List Bool} {W : List ByteArray} (h : LateT w wr d gm g st M W) (hb : Below wr.heap.size wr w') : LateT w w' d gm g st M W := h.keep (h.dk.step hb).1 (h.dk.step hb).2
theorem LateT.put {w wr : World} {d gm g : Nat} {st : DkS} {M : List Bool} {W : List ByteArray} (h : LateT w wr d gm g st M W) (k : Nat) (s : ByteArray) : LateT w (wr.setCell ⟨g, k, none⟩ (.string s)) d gm g st M (W.set k s) :=
  ⟨h.dk.own g (.inr rfl) h.mo ((Frm.refl _ _).setCell _ _ (.inl rfl)), h.fl.kept (heap_setCell_other _ _ gm _ h.ne), h.tx.set k s, h.mg, h.mo, h.ne⟩
theorem LateT.of {w wr : World} {d gm : Nat} {vo : Value} {st : DkS} {M : List Bool} {O : List Nat} (h : RowsT w wr d gm vo st M O) :
    LateT w (wr.alloc (.cells #[.string ⟨#[]⟩, .string ⟨#[]⟩, .string ⟨#[]⟩, .string ⟨#[]⟩, .string ⟨#[]⟩, .string ⟨#[]⟩, .string ⟨#[]⟩, .string ⟨#[]⟩, .string ⟨#[]⟩, .string ⟨#[]⟩] 53)) d gm wr.heap.size st M (List.replicate 10 ⟨#[]⟩) := by
  have hb := (Below.refl wr.heap.size wr).alloc (Nat.le_refl _) (.cells #[.string ⟨#[]⟩, .string ⟨#[]⟩, .string ⟨#[]⟩, .string ⟨#[]⟩, .string ⟨#[]⟩, .string ⟨#[]⟩, .string ⟨#[]⟩, .string ⟨#[]⟩, .string ⟨#[]⟩, .string ⟨#[]⟩] 53)
  have hgm : gm < wr.heap.size := by
    obtain ⟨_, _, _, _, hR⟩ := h.dk
    exact (hR gm (.inl rfl)).2
  refine ⟨h.dk.turn (G := fun _ => False) (Frm.of_below hb) (fun _ hx => hx.elim) (fun k hk => ?_), (h.step hb).fl, ?_, h.mg, h.dk.below.size, by omega⟩
  · rcases hk with rfl | rfl
    · exact .inl (.inl rfl)
    · exact .inr ⟨Nat.le_refl _, by simp⟩
  · unfold Txs
    rw [heap_alloc_new]
    rfl
theorem RowsT.crash {w wr : World} {d gm : Nat} {vo : Value} {st : DkS} {M : List Bool} {O : List Nat} (h : RowsT w wr d gm vo st M O) (ka : Option Addr) (klen kcap : Nat) (zs : List Int) (hk : IsInts .i64 w ka klen kcap zs) :
    Calls Try.prog 17 #[.pointer (some ⟨d, 0, none⟩), .slice ka klen kcap] wr fun e w' => e = .returned (.tuple #[]) ∧ RowsT w w' d gm vo (st.crash (zs.take klen)) M O :=
  (crash_G h.dk ka klen kcap zs hk).mono fun e w' hp => ⟨hp.1, h.keep hp.2.1 hp.2.2⟩
theorem LateT.crash {w wr : World} {d gm g : Nat} {st : DkS} {M : List Bool} {W : List ByteArray} (h : LateT w wr d gm g st M W) (hE : InvE st M) (ka : Option Addr) (klen kcap : Nat) (zs : List Int) (hk : IsInts .i64 w ka klen kcap zs) :
    Calls Try.prog 17 #[.pointer (some ⟨d, 0, none⟩), .slice ka klen kcap] wr fun e w' => e = .returned (.tuple #[]) ∧ LateT w w' d gm g st M W :=
  (crash_G h.dk ka klen kcap zs hk).mono fun e w' hp => ⟨hp.1, by have := h.keep hp.2.1 hp.2.2; rw [invE_crash st M hE] at this; exact this⟩
theorem LateT.read {w wr : World} {d gm g : Nat} {st : DkS} {M : List Bool} {W : List ByteArray} (h : LateT w wr d gm g st M W) (hE : InvE st M) (j : Nat) (hj : j < 10) :
    Calls Try.prog 18 #[.pointer (some ⟨d, 0, none⟩), .int .i64 (j : Int)] wr fun e w' => e = .returned (.tuple #[.string (Str (st.S.getD j [])), .int .i64 0]) ∧ wr = w' := by
  have := read_G h.dk (j : Int)
  rw [invE_read st M hE j hj] at this
  exact this
theorem RowsT.loose {w wr : World} {d gm : Nat} {vo : Value} {st : DkS} {M : List Bool} {O : List Nat} (h : RowsT w wr d gm vo st M O) (hO : st.L.map (·.1) = O) :
    Calls Try.prog 16 #[.pointer (some ⟨d, 0, none⟩)] wr fun e w' => ∃ v, e = .returned v ∧ RowI w' v O ∧ RowsT w w' d gm vo st M O := by
  refine (loose_G h.dk).mono fun e w' ⟨v, he, hown, hb⟩ => ⟨v, he, RowI.of (b := wr.heap.size) ?_, h.step hb⟩
  have e1 : (st.L.map fun p => (p.1 : Int)) = O.map (fun n => Int.ofNat n) := by rw [← hO, List.map_map]; rfl
  rw [e1, List.length_map, List.map_map] at hown
  exact hown
theorem LateT.loose {w wr : World} {d gm g : Nat} {st : DkS} {M : List Bool} {W : List ByteArray} (h : LateT w wr d gm g st M W) (hE : InvE st M) :
    Calls Try.prog 16 #[.pointer (some ⟨d, 0, none⟩)] wr fun e w' => ∃ a cap, e = .returned (.slice a 0 cap) ∧ Below w.heap.size w w' := by
  refine (loose_G h.dk).mono fun e w' ⟨v, he, hown, hb⟩ => ?_
  rw [hE.2.2.2.1] at hown
  have hb2 := (h.step hb).dk.below
  rcases hown.2 with ⟨hv, _⟩ | ⟨g, cap, cur, hv, _⟩
  · exact ⟨none, 0, by rw [he, hv], hb2⟩
  · exact ⟨_, cap, by rw [he, hv]; rfl, hb2⟩
theorem sized_text {H : Type} {P : Program} {ts : List TypeId} {ds : List (DataW H)} (h : (DataW.weightsEach P ts ds).all (· ≤ reachBytes) = true) {j : Nat} {t e : TypeId} {ss : List ByteArray} {sp : List (DataW H)}
    (ht : ts[j]? = some t) (hd : ds[j]? = some (.slice (Go.ChangeShapes.strs ss) sp)) (hu : P.underlying t = some (.slice e)) (s : ByteArray) (hs : s ∈ ss) : s.size ≤ 140737488351232 := by
  have hw : ∀ (l : List (DataW H)) (y : DataW H), y ∈ l → ∀ n ∈ y.weights P e, n ∈ DataW.weightsAll P e l := by
    intro l
    induction l with
    | nil => intro y hy; cases hy
    | cons a l ih =>
      intro y hy n hn
      simp only [DataW.weightsAll, List.mem_append]
      rcases List.mem_cons.1 hy with rfl | hy
      · exact .inl hn
      · exact .inr (ih y hy n hn)
  have hmem : (DataW.lit (.string s.data.toList) : DataW H) ∈ (Go.ChangeShapes.strs ss : List (DataW H)) := List.mem_map.2 ⟨s, hs, rfl⟩
  have := of_decide_eq_true (List.all_eq_true.1 h s.data.toList.length (DataW.weights_mem_each ht hd _ (by
    simp only [DataW.weights, hu, List.mem_cons, List.mem_append]
    exact .inr (.inl (hw _ _ hmem _ (by simp [DataW.weights]))))))
  have e1 : s.data.toList.length = s.size := by rw [Array.length_toList]; rfl
  rw [e1] at this
  exact this
end Go.Proofs.Yteaiiiikehimgaa
