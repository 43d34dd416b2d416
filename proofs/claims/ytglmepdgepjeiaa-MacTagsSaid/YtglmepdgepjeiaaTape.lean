/-
  No run changes the tape.
-/
import Derived.Test.YtglmepdgepjeiaaSup
import Derived.Room.AppendOnto
namespace Go.Proofs.Ytglmepdgepjeiaa
open Go.RowKit
set_option linter.unusedVariables false

theorem bind_ok {ε α β : Type} {x : Except ε α} {f : α → Except ε β} {r : β} (h : (x >>= f) = .ok r) : ∃ a, x = .ok a ∧ f a = .ok r := by
  cases x with
  | error e => exact absurd h (by simp [bind, Except.bind])
  | ok a => exact ⟨a, rfl, h⟩
theorem throw_bind_no {α β : Type} {m : String} {f : α → Except String β} {r : β} (h : (((MonadExcept.throw m) : Except String α) >>= f) = .ok r) : False := by
  obtain ⟨a, ha, _⟩ := bind_ok h
  cases ha
theorem viewStore_tape {p : Program} {w : World} {at_ : Addr} {u : TypeId} {k : Addr} {v : Value} {b : Bool} {r : World × List Addr} (h : w.viewStore p at_ u k v b = .ok r) : r.1.tape = w.tape := by
  unfold World.viewStore at h
  dsimp only at h
  split at h
  · exact (throw_bind_no h).elim
  · obtain ⟨⟨c, e, fr, first, like, cells⟩, hx, h⟩ := bind_ok h
    dsimp only at h
    split at h
    · split at h
      · exact (throw_bind_no h).elim
      · obtain ⟨c', hc', h⟩ := bind_ok h
        cases h
        rfl
    · cases h
theorem farStore_tape {p : Program} {w : World} {a : Addr} {v : Value} {b : Bool} {r : World × List Addr} (h : w.farStore p a v b = .ok r) : r.1.tape = w.tape := by
  unfold World.farStore at h
  split at h
  · split at h
    · next hv => cases h; exact viewStore_tape hv
    · cases h
  · cases h
theorem ask_tape {α : Type} (x : Ask α) : ∀ w : World, (w.ask x).2.tape = w.tape := by
  induction x with
  | done a => intro w; simp only [World.ask]
  | ask what range k ih =>
    intro w
    simp only [World.ask]
    split
    · exact ih _ _
    · exact (ih _ _).trans rfl
theorem sys_tape (w : World) (c : Sys) : (w.sys c).2.tape = w.tape := by
  have h := ask_tape (Kernel.perform c w.os) w
  unfold World.sys
  split
  · rfl
  · next hh => rw [hh] at h; exact h
theorem run_tape {α : Type} (p : Program) (x : Sem α) : ∀ (w : World) (v : α) (w' : World), x.run p w = .ok v w' → w'.tape = w.tape := by
  induction x with
  | pure a => intro w v w' h; simp only [Sem.run] at h; cases h; rfl
  | load m a k ih =>
    intro w v w' h
    simp only [Sem.run] at h
    split at h
    · exact ih _ _ _ _ h
    · split at h
      · exact ih _ _ _ _ h
      · cases h
  | store m a u k ih =>
    intro w v w' h
    by_cases hag : (∃ c, u = .agg c) ∨ ∃ c, u = .tuple c
    · rcases hag with ⟨c, rfl⟩ | ⟨c, rfl⟩ <;> (simp only [Sem.run] at h; cases h)
    · have e : (Sem.store m a u k).run p w = (match w.cell? a with
          | some _ => if w.frozen? a then .halt (.unsupported (.unsafePointer "a write to bytes that a string shares")) w else k.run p (w.setCell a u)
          | none => match w.farStore p a u (m == .atomic) with
            | .ok (w, _) => k.run p w
            | .error h => .halt h w) := by
        cases u <;> first | rfl | exact absurd (Or.inl ⟨_, rfl⟩) hag | exact absurd (Or.inr ⟨_, rfl⟩) hag
      rw [e] at h
      split at h
      · split at h
        · cases h
        · exact (ih _ _ _ h).trans rfl
      · split at h
        · next hf => exact (ih _ _ _ h).trans (farStore_tape hf)
        · cases h
  | new o k ih => intro w v w' h; simp only [Sem.run] at h; exact (ih _ _ _ _ h).trans rfl
  | shape r k ih => intro w v w' h; simp only [Sem.run] at h; exact ih _ _ _ _ h
  | freeze a n k ih => intro w v w' h; simp only [Sem.run] at h; exact (ih _ _ _ h).trans (by unfold World.freeze; split <;> rfl)
  | frozen a k ih => intro w v w' h; simp only [Sem.run] at h; exact ih _ _ _ _ h
  | getObj r k ih =>
    intro w v w' h
    simp only [Sem.run] at h
    split at h
    · cases h
    · exact ih _ _ _ _ h
    · cases h
  | setObj r o k ih =>
    intro w v w' h
    simp only [Sem.run] at h
    split at h
    · cases h
    · exact (ih _ _ _ h).trans rfl
    · cases h
  | choose q k ih =>
    intro w v w' h
    simp only [Sem.run] at h
    split at h
    · exact ih _ _ _ _ h
    · exact (ih _ _ _ _ h).trans rfl
  | sys c k ih => intro w v w' h; simp only [Sem.run] at h; exact (ih _ _ _ _ h).trans (sys_tape w c)
  | program k ih => intro w v w' h; simp only [Sem.run] at h; exact ih _ _ _ _ h
  | mark m k ih => intro w v w' h; simp only [Sem.run] at h; exact ih _ _ _ h
  | halt x => intro w v w' h; simp only [Sem.run] at h; cases h
end Go.Proofs.Ytglmepdgepjeiaa
