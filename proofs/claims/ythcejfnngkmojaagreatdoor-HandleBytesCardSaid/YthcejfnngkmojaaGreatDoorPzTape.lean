/-
 Tape.
-/
import Derived.Test.YthcejfnngkmojaaGreatDoorP01
import Derived.Room.AppendOnto
namespace Go.Proofs.YthcejfnngkmojaaGreatDoor
open Go.RowKit
set_option maxRecDepth 20000
set_option maxHeartbeats 12800000
set_option linter.unusedVariables false
set_option linter.unusedSimpArgs false
theorem xO {ε α β:Type} {x:Except ε α} {f:α→Except ε β} {r:β} (h:(x >>= f)=.ok r):∃ a,x=.ok a∧f a=.ok r:=by
 cases x with
 | error e=>exact absurd h (by simp [bind,Except.bind])
 | ok a=>exact ⟨a,rfl,h⟩
theorem mM {α β:Type} {m:String} {f:α→Except String β} {r:β} (h:(((MonadExcept.throw m):Except String α) >>= f)=.ok r):False:=by
 obtain ⟨a,ha,_⟩:=xO h
 cases ha
theorem rO {p:Program} {w:World} {at_:Addr} {u:TypeId} {k:Addr} {v:Value} {b:Bool} {r:World × List Addr} (h:w.viewStore p at_ u k v b=.ok r):r.1.tape=w.tape:=by
 unfold World.viewStore at h
 dsimp only at h
 split at h
 ·exact (mM h).elim
 ·obtain ⟨⟨c,e,fr,first,like,cells⟩,hx,h⟩:=xO h
  dsimp only at h
  split at h
  ·split at h
   ·exact (mM h).elim
   ·obtain ⟨c', hc', h⟩:=xO h
    cases h
    rfl
  ·cases h
theorem uF {p:Program} {w:World} {a:Addr} {v:Value} {b:Bool} {r:World × List Addr} (h:w.farStore p a v b=.ok r):r.1.tape=w.tape:=by
 unfold World.farStore at h
 split at h
 ·split at h
  ·next hv=>cases h; exact rO hv
  ·cases h
 ·cases h
theorem YG {α:Type} (x:Ask α):∀ w:World,(w.ask x).2.tape=w.tape:=by
 induction x with
 | done a=>intro w; simp only [World.ask]
 | ask what range k ih =>
  intro w;simp only [World.ask]
  split
  ·exact ih _ _
  ·exact (ih _ _).trans rfl
theorem TB (w:World) (c:Sys):(w.sys c).2.tape=w.tape:=by
 have h:=YG (Kernel.perform c w.os) w;unfold World.sys
 split
 ·rfl
 ·next hh=>rw [hh] at h; exact h
theorem UE {α:Type} (p:Program) (x:Sem α):∀ (w:World) (v:α) (w' : World),x.run p w=.ok v w'→w'.tape=w.tape:=by
 induction x with
 | pure a=>intro w v w' h; simp only [Sem.run] at h; cases h; rfl
 | load m a k ih =>
  intro w v w' h;simp only [Sem.run] at h
  split at h
  ·exact ih _ _ _ _ h
  ·split at h
   ·exact ih _ _ _ _ h
   ·cases h
 | store m a u k ih =>
  intro w v w' h
  by_cases hag:(∃ c,u=.agg c)∨∃ c,u=.tuple c
  ·rcases hag with ⟨c,rfl⟩ | ⟨c,rfl⟩ <;> (simp only [Sem.run] at h; cases h)
  ·have e:(Sem.store m a u k).run p w=(match w.cell? a with
     | some _=>if w.frozen? a then .halt (.unsupported (.unsafePointer "a write to bytes that a string shares")) w else k.run p (w.setCell a u)
     | none=>match w.farStore p a u (m == .atomic) with
      | .ok (w,_)=>k.run p w
      | .error h=>.halt h w):=by
    cases u <;> first | rfl | exact absurd (Or.inl ⟨_,rfl⟩) hag | exact absurd (Or.inr ⟨_,rfl⟩) hag
   rw [e] at h
   split at h
   ·split at h
    ·cases h
    ·exact (ih _ _ _ h).trans rfl
   ·split at h
    ·next hf=>exact (ih _ _ _ h).trans (uF hf)
    ·cases h
 | new o k ih=>intro w v w' h; simp only [Sem.run] at h; exact (ih _ _ _ _ h).trans rfl
 | shape r k ih=>intro w v w' h; simp only [Sem.run] at h; exact ih _ _ _ _ h
 | freeze a n k ih=>intro w v w' h; simp only [Sem.run] at h; exact (ih _ _ _ h).trans (by unfold World.freeze; split <;> rfl)
 | frozen a k ih=>intro w v w' h; simp only [Sem.run] at h; exact ih _ _ _ _ h
 | getObj r k ih =>
  intro w v w' h;simp only [Sem.run] at h
  split at h
  ·cases h
  ·exact ih _ _ _ _ h
  ·cases h
 | setObj r o k ih =>
  intro w v w' h;simp only [Sem.run] at h
  split at h
  ·cases h
  ·exact (ih _ _ _ h).trans rfl
  ·cases h
 | choose q k ih =>
  intro w v w' h;simp only [Sem.run] at h
  split at h
  ·exact ih _ _ _ _ h
  ·exact (ih _ _ _ _ h).trans rfl
 | sys c k ih=>intro w v w' h; simp only [Sem.run] at h; exact (ih _ _ _ _ h).trans (TB w c)
 | program k ih=>intro w v w' h; simp only [Sem.run] at h; exact ih _ _ _ _ h
 | mark m k ih=>intro w v w' h; simp only [Sem.run] at h; exact ih _ _ _ h
 | halt x=>intro w v w' h; simp only [Sem.run] at h; cases h
end Go.Proofs.YthcejfnngkmojaaGreatDoor
