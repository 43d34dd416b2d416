/-
  Our disk and the document's own, beside blocks of a law's own.
-/
import Derived.Test.YteaiiiikehimgaaRkD
namespace Go.Proofs.Yteaiiiikehimgaa
open Go.RowKit
set_option linter.unusedVariables false
set_option linter.unusedSimpArgs false
/-- Two states that answer alike: a fuse below 0 is none. -/
def SameS (st sx : DkS) : Prop := sx.S = st.S ∧ sx.L = st.L ∧ sx.up = st.up ∧ (sx.fuse = st.fuse ∨ (sx.fuse < 0 ∧ st.fuse < 0))
theorem same_refl (st : DkS) : SameS st st := ⟨rfl, rfl, rfl, .inl rfl⟩
theorem same_read {st sx : DkS} (h : SameS st sx) (i : Int) : sx.read i = st.read i := by
  unfold DkS.read
  rw [h.1, h.2.2.1]
theorem same_sync {st sx : DkS} (h : SameS st sx) : sx.sync.2 = st.sync.2 ∧ SameS st.sync.1 sx.sync.1 := by
  unfold DkS.sync
  rw [h.2.2.1]
  split
  · exact ⟨rfl, h⟩
  · exact ⟨rfl, h.1, rfl, rfl, h.2.2.2⟩
theorem same_crash {st sx : DkS} (h : SameS st sx) (ks : List Int) : SameS (st.crash ks) (sx.crash ks) := by
  refine ⟨?_, rfl, rfl, .inl rfl⟩
  show rsT sx.S sx.L ks sx.L.length = rsT st.S st.L ks st.L.length
  rw [h.1, h.2.1]
theorem same_fuse {st sx : DkS} (h : SameS st sx) (n v : Int) (hv : (n < -1 ∧ v = -1) ∨ (-1 ≤ n ∧ v = n)) : SameS { st with fuse := v } { sx with fuse := n } := by
  refine ⟨h.1, h.2.1, h.2.2.1, ?_⟩
  rcases hv with ⟨h1, h2⟩ | ⟨h1, h2⟩
  · exact .inr ⟨by show n < 0; omega, by show v < 0; omega⟩
  · exact .inl h2.symm
theorem same_write {st sx : DkS} (h : SameS st sx) (i : Int) (s : List UInt8) : (sx.write i s).2 = (st.write i s).2 ∧ SameS (st.write i s).1 (sx.write i s).1 := by
  obtain ⟨h1, h2, h3, h4⟩ := h
  unfold DkS.write
  rw [h3, h1]
  split
  · exact ⟨rfl, h1, h2, h3, h4⟩
  · split
    · exact ⟨rfl, h1, h2, h3, h4⟩
    · by_cases hf : st.fuse = 0
      · have hf2 : sx.fuse = 0 := by omega
        rw [if_pos hf, if_pos hf2]
        exact ⟨rfl, rfl, h2, rfl, .inl (by show sx.fuse = st.fuse; omega)⟩
      · have hf2 : ¬ sx.fuse = 0 := by omega
        rw [if_neg hf, if_neg hf2]
        refine ⟨rfl, ?_, ?_, ?_, ?_⟩
        · show (sx.wrote _ s).S = (st.wrote _ s).S
          rw [wrote_S, wrote_S, h1]
        · show (sx.wrote _ s).L = (st.wrote _ s).L
          rw [wrote_L, wrote_L, h1, h2]
        · show (sx.wrote _ s).up = (st.wrote _ s).up
          rw [wrote_up, wrote_up, h3]
        · show (sx.wrote _ s).fuse = (st.wrote _ s).fuse ∨ ((sx.wrote _ s).fuse < 0 ∧ (st.wrote _ s).fuse < 0)
          rw [wrote_fuse, wrote_fuse]
          rcases h4 with h4 | ⟨h4, h5⟩
          · rw [h4]; exact .inl rfl
          · rw [if_neg (by omega), if_neg (by omega)]; exact .inr ⟨h4, h5⟩
def PairR (w0 w : World) (R : Nat → Prop) (d x : Nat) (st sx : DkS) : Prop := ∃ FX, Rk w x sx FX ∧ DkG w0 w (fun k => FX k ∨ R k) d st ∧ (∀ k, FX k → w0.heap.size ≤ k) ∧ ∀ k, R k → ¬ FX k
theorem Rk.kept {w w' : World} {x : Nat} {st : DkS} {F : Nat → Prop} (h : Rk w x st F) (hk : KeptR F w w') : Rk w' x st F := by
  obtain ⟨vs, vl, hi, he⟩ := h
  exact ⟨vs, vl, hi.kept fun k hF => hk k ((he k).2 hF), he⟩
theorem Rk.lt {w : World} {x : Nat} {st : DkS} {F : Nat → Prop} (h : Rk w x st F) (k : Nat) (hk : F k) : k < w.heap.size := by
  obtain ⟨vs, vl, hi, he⟩ := h
  exact hi.lt k ((he k).1 hk)
theorem PairR.below {w0 w : World} {R : Nat → Prop} {d x : Nat} {st sx : DkS} (h : PairR w0 w R d x st sx) : Below w0.heap.size w0 w := h.choose_spec.2.1.below
/-- The disk has turned. -/
theorem PairR.ours {w0 w w' : World} {R : Nat → Prop} {d x : Nat} {st' sx : DkS} {FX : Nat → Prop} (h1 : Rk w x sx FX) (h3 : ∀ k, FX k → w0.heap.size ≤ k) (h4 : ∀ k, R k → ¬ FX k) (hd : DkG w0 w' (fun k => FX k ∨ R k) d st') (hk : KeptR (fun k => FX k ∨ R k) w w') :
    PairR w0 w' R d x st' sx ∧ KeptR R w w' := ⟨⟨FX, h1.kept fun k hF => hk k (.inl hF), hd, h3, h4⟩, fun k hR => hk k (.inr hR)⟩
/-- The document's disk has turned. -/
theorem PairR.theirs {w0 w w' : World} {R : Nat → Prop} {d x : Nat} {st sx' : DkS} {FX : Nat → Prop} (h2 : DkG w0 w (fun k => FX k ∨ R k) d st) (h3 : ∀ k, FX k → w0.heap.size ≤ k) (h4 : ∀ k, R k → ¬ FX k) (hp : RkPost w x sx' FX w') :
    PairR w0 w' R d x st sx' ∧ KeptR R w w' := by
  obtain ⟨FX', k1, k2, k3⟩ := hp
  have hR : ∀ k, R k → k < w.heap.size := by
    obtain ⟨_, _, _, _, hR⟩ := h2
    exact fun k hk => (hR k (.inr hk)).2
  refine ⟨⟨FX', k1, h2.turn k2 (fun k hk => ⟨.inl hk, h3 k hk⟩) (fun k hk => ?_), fun k hk => ?_, fun k hk hx => ?_⟩, fun k hk => k2.block k (hR k hk) (h4 k hk)⟩
  · rcases hk with hk | hk
    · rcases k3 k hk with h5 | h5
      · exact .inl (.inl h5)
      · exact .inr ⟨h5, k1.lt k hk⟩
    · exact .inl (.inr hk)
  · rcases k3 k hk with h5 | h5
    · exact h3 k h5
    · exact Nat.le_trans h2.below.size h5
  · rcases k3 k hx with h5 | h5
    · exact h4 k hk h5
    · have := hR k hk; omega
theorem PairR.step {w0 w w' : World} {R : Nat → Prop} {d x : Nat} {st sx : DkS} (h : PairR w0 w R d x st sx) (hb : Below w.heap.size w w') : PairR w0 w' R d x st sx ∧ KeptR R w w' := by
  obtain ⟨FX, h1, h2, h3, h4⟩ := h
  exact PairR.ours h1 h3 h4 (h2.step hb).1 (h2.step hb).2
theorem PairR.dwrite {w0 w : World} {R : Nat → Prop} {d x : Nat} {st sx : DkS} (h : PairR w0 w R d x st sx) (i : Int) (s : ByteArray) :
    Calls Try.prog 13 #[.pointer (some ⟨d, 0, none⟩), .int .i64 i, .string s] w fun e w' => e = .returned (.int .i64 (st.write i s.data.toList).2) ∧ PairR w0 w' R d x (st.write i s.data.toList).1 sx ∧ KeptR R w w' := by
  obtain ⟨FX, h1, h2, h3, h4⟩ := h
  exact (write_G h2 i s).mono fun e w' hp => ⟨hp.1, PairR.ours h1 h3 h4 hp.2.1 hp.2.2⟩
theorem PairR.xwrite {w0 w : World} {R : Nat → Prop} {d x : Nat} {st sx : DkS} (h : PairR w0 w R d x st sx) (i : Int) (s : ByteArray) :
    Calls Try.prog 23 #[.pointer (some ⟨x, 0, none⟩), .int .i64 i, .string s] w fun e w' => e = .returned (.int .i64 (sx.write i s.data.toList).2) ∧ PairR w0 w' R d x st (sx.write i s.data.toList).1 ∧ KeptR R w w' := by
  obtain ⟨FX, h1, h2, h3, h4⟩ := h
  exact (refWrite_any w x sx FX h1 i s).mono fun e w' hp => ⟨hp.1, PairR.theirs h2 h3 h4 hp.2⟩
theorem PairR.dread {w0 w : World} {R : Nat → Prop} {d x : Nat} {st sx : DkS} (h : PairR w0 w R d x st sx) (i : Int) :
    Calls Try.prog 18 #[.pointer (some ⟨d, 0, none⟩), .int .i64 i] w fun e w' => e = .returned (.tuple #[.string (Str (st.read i).1), .int .i64 (st.read i).2]) ∧ w = w' := by
  obtain ⟨FX, h1, h2, h3, h4⟩ := h
  exact read_G h2 i
theorem PairR.xread {w0 w : World} {R : Nat → Prop} {d x : Nat} {st sx : DkS} (h : PairR w0 w R d x st sx) (i : Int) :
    Calls Try.prog 26 #[.pointer (some ⟨x, 0, none⟩), .int .i64 i] w fun e w' => e = .returned (.tuple #[.string (Str (sx.read i).1), .int .i64 (sx.read i).2]) ∧ w = w' := by
  obtain ⟨FX, h1, h2, h3, h4⟩ := h
  exact refRead_any w x sx FX h1 i
theorem PairR.dsync {w0 w : World} {R : Nat → Prop} {d x : Nat} {st sx : DkS} (h : PairR w0 w R d x st sx) :
    Calls Try.prog 15 #[.pointer (some ⟨d, 0, none⟩)] w fun e w' => e = .returned (.int .i64 st.sync.2) ∧ PairR w0 w' R d x st.sync.1 sx ∧ KeptR R w w' := by
  obtain ⟨FX, h1, ⟨F, hd, hw, hF, hR⟩, h3, h4⟩ := h
  exact (sync_any w d st F hd).mono fun e w' hp => ⟨hp.1, PairR.ours h1 h3 h4 (DkG.post hw hF hR hp.2).1 (DkG.post hw hF hR hp.2).2⟩
theorem PairR.xsync {w0 w : World} {R : Nat → Prop} {d x : Nat} {st sx : DkS} (h : PairR w0 w R d x st sx) :
    Calls Try.prog 24 #[.pointer (some ⟨x, 0, none⟩)] w fun e w' => e = .returned (.int .i64 sx.sync.2) ∧ PairR w0 w' R d x st sx.sync.1 ∧ KeptR R w w' := by
  obtain ⟨FX, h1, h2, h3, h4⟩ := h
  exact (refSync_any w x sx FX h1).mono fun e w' hp => ⟨hp.1, PairR.theirs h2 h3 h4 hp.2⟩
theorem PairR.dcrash {w0 w : World} {R : Nat → Prop} {d x : Nat} {st sx : DkS} (h : PairR w0 w R d x st sx) (ka : Option Addr) (klen kcap : Nat) (zs : List Int) (hk : IsInts .i64 w0 ka klen kcap zs) :
    Calls Try.prog 17 #[.pointer (some ⟨d, 0, none⟩), .slice ka klen kcap] w fun e w' => e = .returned (.tuple #[]) ∧ PairR w0 w' R d x (st.crash (zs.take klen)) sx ∧ KeptR R w w' := by
  obtain ⟨FX, h1, h2, h3, h4⟩ := h
  exact (crash_G h2 ka klen kcap zs hk).mono fun e w' hp => ⟨hp.1, PairR.ours h1 h3 h4 hp.2.1 hp.2.2⟩
theorem PairR.xcrash {w0 w : World} {R : Nat → Prop} {d x : Nat} {st sx : DkS} (h : PairR w0 w R d x st sx) (ka : Option Addr) (klen kcap : Nat) (zs : List Int) (hk : IsInts .i64 w0 ka klen kcap zs) :
    Calls Try.prog 25 #[.pointer (some ⟨x, 0, none⟩), .slice ka klen kcap] w fun e w' => e = .returned (.tuple #[]) ∧ PairR w0 w' R d x st (sx.crash (zs.take klen)) ∧ KeptR R w w' := by
  obtain ⟨FX, h1, h2, h3, h4⟩ := h
  have hw := h2.below
  refine (refCrash_is w x sx FX h1 ka klen kcap (zs.take klen) ?_).mono fun e w' hp => ⟨hp.1, PairR.theirs h2 h3 h4 hp.2⟩
  rcases hk with ⟨rfl, rfl, rfl, rfl⟩ | ⟨y, rfl, k1, k2, k3, k4, k5⟩
  · exact ⟨rfl, Nat.le_refl _, by decide, .inl ⟨rfl, rfl, rfl⟩⟩
  · refine ⟨by rw [List.length_take]; omega, k1, k2, .inr ⟨y, rfl, fun w' hf j hj => ?_⟩⟩
    have hc := k4 j (by omega)
    have hlt : (y.add j).block < w0.heap.size := by
      unfold World.cell? at hc
      cases hq : w0.heap[(y.add j).block]? with
      | none => rw [hq] at hc; simp at hc
      | some o => exact (Array.getElem?_eq_some_iff.1 hq).1
    have hb : w'.heap[(y.add j).block]? = w0.heap[(y.add j).block]? := by
      rw [hf.block _ (Nat.lt_of_lt_of_le hlt hw.size) (fun hx => by have := h3 _ hx; omega)]
      exact hw.block _ hlt
    rw [World.cell?_of_block hb, hc, List.getD_eq_getElem?_getD, List.getD_eq_getElem?_getD, List.getElem?_take, if_pos hj]
theorem PairR.dfuse {w0 w : World} {R : Nat → Prop} {d x : Nat} {st sx : DkS} (h : PairR w0 w R d x st sx) (n v : Int) (hv : (n < -1 ∧ v = -1) ∨ (-1 ≤ n ∧ v = n)) (hn : n ≤ 9223372036854775807) :
    Calls Try.prog 20 #[.pointer (some ⟨d, 0, none⟩), .int .i64 n] w fun e w' => e = .returned (.tuple #[]) ∧ PairR w0 w' R d x { st with fuse := v } sx ∧ KeptR R w w' := by
  obtain ⟨FX, h1, ⟨F, hd, hw, hF, hR⟩, h3, h4⟩ := h
  exact (fuse_is w d st F hd n v hv hn).mono fun e w' hp => ⟨hp.1, PairR.ours h1 h3 h4 (DkG.post hw hF hR hp.2).1 (DkG.post hw hF hR hp.2).2⟩
theorem PairR.dup {w0 w : World} {R : Nat → Prop} {d x : Nat} {st sx : DkS} (h : PairR w0 w R d x st sx) :
    Calls Try.prog 19 #[.pointer (some ⟨d, 0, none⟩)] w fun e w' => e = .returned (.bool st.up) ∧ w = w' := by
  obtain ⟨FX, h1, ⟨F, hd, hw, hF, hR⟩, h3, h4⟩ := h
  exact up_is w d st F hd
theorem size_is (w : World) (d : Nat) (st : DkS) (F : Nat → Prop) (h : Dk w d st F) :
    Calls Try.prog 28 #[.pointer (some ⟨d, 0, none⟩)] w fun e w' => e = .returned (.int .i64 (st.S.length : Int)) ∧ w = w' := by
  obtain ⟨g, m, lv, hi, he⟩ := h
  obtain ⟨c0, _, _, _, _⟩ := hi.cells
  clear hi he
  go_enter Try.func28, Try.ntmps28
  go_wp2_with fail
  go_ret
  exact ⟨rfl, rfl⟩
theorem PairR.dsize {w0 w : World} {R : Nat → Prop} {d x : Nat} {st sx : DkS} (h : PairR w0 w R d x st sx) :
    Calls Try.prog 28 #[.pointer (some ⟨d, 0, none⟩)] w fun e w' => e = .returned (.int .i64 (st.S.length : Int)) ∧ w = w' := by
  obtain ⟨FX, h1, ⟨F, hd, hw, hF, hR⟩, h3, h4⟩ := h
  exact size_is w d st F hd
theorem PairR.xcells {w0 w : World} {R : Nat → Prop} {d x : Nat} {st sx : DkS} (h : PairR w0 w R d x st sx) : ∃ g cap, w.cell? ⟨x, 0, none⟩ = some (.slice (some ⟨g, 0, none⟩) sx.S.length cap) ∧ sx.S.length ≤ cap ∧ cap ≤ maxLen ∧ w.cell? ⟨x, 3, none⟩ = some (.bool (!sx.up)) ∧ w.cell? ⟨x, 2, none⟩ = some (.int .i64 sx.fuse) ∧ w.frozen? ⟨x, 2, none⟩ = false ∧
    ∀ n, n < sx.S.length → w.cell? ⟨g, n, none⟩ = some (.string (Str (sx.S.getD n []))) := by
  obtain ⟨FX, ⟨vs, vl, hi, he⟩, _⟩ := h
  obtain ⟨g, cap, rfl, h1, h2⟩ := hi.vs_is
  obtain ⟨c0, _, c2, c3⟩ := hi.cells
  exact ⟨g, cap, c0, h1, h2, c3, c2, hi.free 2, fun n hn => (hi.sec2 rfl n hn).1⟩
theorem PairR.xfuse {w0 w : World} {R : Nat → Prop} {d x : Nat} {st sx : DkS} (h : PairR w0 w R d x st sx) (n : Int) (h0 : -9223372036854775808 ≤ n) (h1 : n ≤ 9223372036854775807) : PairR w0 (w.setCell ⟨x, 2, none⟩ (.int .i64 n)) R d x st { sx with fuse := n } ∧ KeptR R w (w.setCell ⟨x, 2, none⟩ (.int .i64 n)) := by
  obtain ⟨FX, ⟨vs, vl, hi, he⟩, h2, h3, h4⟩ := h
  refine PairR.theirs h2 h3 h4 ⟨FX, ⟨vs, vl, hi.setFuse n h0 h1, he⟩, (Frm.refl _ _).setCell _ _ (.inl ((he x).2 (.inl rfl))), fun k hk => .inl hk⟩
theorem RowI.keep {w w' : World} {v : Value} {O : List Nat} (h : RowI w v O) (hb : Below w.heap.size w w') : RowI w' v O := by
  obtain ⟨a, cap, hv, hm, hc⟩ := h
  refine ⟨a, cap, hv, hm, fun j hj => ?_⟩
  obtain ⟨x, hx, hl, hcell⟩ := hc j hj
  exact ⟨x, hx, Nat.lt_of_lt_of_le hl hb.size, by rw [World.cell?_of_block (hb.block _ hl)]; exact hcell⟩
theorem PairR.dloose {w0 w : World} {R : Nat → Prop} {d x : Nat} {st sx : DkS} (h : PairR w0 w R d x st sx) :
    Calls Try.prog 16 #[.pointer (some ⟨d, 0, none⟩)] w fun e w' => ∃ v, e = .returned v ∧ RowI w' v (st.L.map (·.1)) ∧ Below w.heap.size w w' := by
  obtain ⟨FX, h1, h2, h3, h4⟩ := h
  refine (loose_G h2).mono fun e w' ⟨v, he, hown, hb⟩ => ⟨v, he, RowI.of (b := w.heap.size) ?_, hb⟩
  have e1 : (st.L.map fun p => (p.1 : Int)) = (st.L.map (·.1)).map (fun n => Int.ofNat n) := by rw [List.map_map]; rfl
  rw [e1, List.length_map, List.map_map] at hown
  exact hown
theorem PairR.xloose {w0 w : World} {R : Nat → Prop} {d x : Nat} {st sx : DkS} (h : PairR w0 w R d x st sx) :
    Calls Try.prog 27 #[.pointer (some ⟨x, 0, none⟩)] w fun e w' => ∃ v, e = .returned v ∧ RowI w' v (sx.L.map (·.1)) ∧ Below w.heap.size w w' := by
  obtain ⟨FX, h1, h2, h3, h4⟩ := h
  exact refLoose_any w x sx FX h1
end Go.Proofs.Yteaiiiikehimgaa
