/-
 OpenRec.
-/
import Derived.Lib.SmallJoins
import Derived.SizedLaws
import Derived.OpenShut
namespace Go.Proofs.YthcejfnngkmojaaGreatDoor
open Go.RowKit Go.ChangeShapes Go.WideShapes Go.Joins Go.Deep
set_option maxRecDepth 20000
set_option maxHeartbeats 12800000
set_option linter.unusedVariables false
set_option linter.unusedSimpArgs false
section
variable {H:Type} {P:Program} {ts:List TypeId} {ds:List (DataW H)}
end
section
variable {H:Type} {enc:TypeId × Value→H} {P:Program} {w:World} {base:Nat} {spare:Nat→Bool} {held:Bool}
theorem lX {n:Nat} {cs:List Value} {f:Field} {y:DataW H × List MemPlace} {i:Nat} {c:Value} (ho:f.offset=i) (hc:P.cellsOf f.type=1) (hi:(cs.drop i).take 1=[c])
  (h:DataW.trod enc P w base spare held n f.type ((cs.drop f.offset).take (P.cellsOf f.type))=some y):DataW.trod enc P w base spare held n f.type [c]=some y:=by
 rw [ho,hc,hi] at h; exact h
theorem arr4 {α:Type} {cs:Array α} (h:cs.size=4):∃ c0 c1 c2 c3,cs=#[c0,c1,c2,c3]:=by
 obtain ⟨l⟩:=cs
 match l,h with
 | [c0,c1,c2,c3],_=>exact ⟨c0,c1,c2,c3,rfl⟩
theorem lst4 {α:Type} {l:List α} (h:l.length=4):∃ c0 c1 c2 c3,l=[c0,c1,c2,c3]:=by
 match l,h with
 | [c0,c1,c2,c3],_=>exact ⟨c0,c1,c2,c3,rfl⟩
theorem openR4 {r:Reach} {b0:Nat} {t:TypeId} {f0 f1 f2 f3:Field} {v:Value} {d:DataW H} {p:List MemPlace} (hs:P.underlying t=some (.struct #[f0,f1,f2,f3])) (hone:oneCellFields P #[f0,f1,f2,f3]=true) (hC:P.cellsOf t=4)
  (hv:Value.okWide P w r b0 t v) (h:DataW.Trod enc P w base spare held t v d p) :
  ∃ (c0 c1 c2 c3:Value) (y0 y1 y2 y3:DataW H × List MemPlace) (n:Nat),v=.agg #[c0,c1,c2,c3]∧d=.agg [y0.1,y1.1,y2.1,y3.1]∧p=[y0,y1,y2,y3].flatMap (·.2) ∧
   DataW.trod enc P w base spare held n f0.type [c0]=some y0∧DataW.trod enc P w base spare held n f1.type [c1]=some y1∧DataW.trod enc P w base spare held n f2.type [c2]=some y2∧DataW.trod enc P w base spare held n f3.type [c3]=some y3:=by
 obtain ⟨cs,rfl,hsz⟩:=okWide_struct hs hv;obtain ⟨c0,c1,c2,c3,rfl⟩:=arr4 (hsz.trans hC);obtain ⟨fuel,hf⟩:=h;obtain ⟨xs,n,_,hx,hl,hlen,hf⟩:=DataW.trod_struct hs hf;obtain ⟨y0,y1,y2,y3,rfl⟩:=lst4 (l:=xs) (by simpa using hlen);obtain ⟨o0,k0⟩:=hone_of hone 0 f0 rfl;obtain ⟨o1,k1⟩:=hone_of hone 1 f1 rfl;obtain ⟨o2,k2⟩:=hone_of hone 2 f2 rfl;obtain ⟨o3,k3⟩:=hone_of hone 3 f3 rfl;obtain ⟨hd,hp⟩:=Prod.mk.inj hx
 exact ⟨c0,c1,c2,c3,y0,y1,y2,y3,n,rfl,hd,hp,lX o0 k0 rfl (hf 0 f0 rfl),lX o1 k1 rfl (hf 1 f1 rfl),lX o2 k2 rfl (hf 2 f2 rfl),lX o3 k3 rfl (hf 3 f3 rfl)⟩
end
end Go.Proofs.YthcejfnngkmojaaGreatDoor
