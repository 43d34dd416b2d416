/-
 Turn.
-/
import Derived.Test.YthcejfnngkmojaaGreatDoorPzSpread
namespace Go.Proofs.YthcejfnngkmojaaGreatDoor
open Go.RowKit
set_option maxRecDepth 20000
set_option maxHeartbeats 12800000
set_option linter.unusedVariables false
set_option linter.unusedSimpArgs false
theorem gE:(Tryz.prog.info? 221).map (·.size)=some 8:=by kernel_rfl
theorem tH:(Tryz.prog.info? 224).map (·.size)=some 64:=by kernel_rfl
theorem QP (w:World) :
  Calls Tryz.prog 152 #[] w fun e w' => e=.returned (.agg (U S.HS.list))∧Below w.heap.size w w' := by
 go_enter Tryz.func152,Tryz.ntmps152;go_wp2_with fail;exact bodyPost_ret (v:=.agg (U S.HS.list)) (by simp [results,Tryz.results152,go_sem]; rfl) rfl ⟨rfl,Br.alloc (Nat.le_refl _) _⟩
def IsK (L:List Nat):Prop:=S.KS=L
theorem EH (L:List Nat) (w:World) (HL:IsK L) :
  Calls Tryz.prog 153 #[] w fun e w' => e=.returned (.agg (U L))∧Below w.heap.size w w' := by
 have hlen:L.length=64:=by have h:S.KS=L:=HL; rw [← h]; rfl
 have hone:=mT L;have hinfo:(Tryz.prog.info? 224).map (·.size)=some (U L).size:=by rw [bP,hlen]; exact tH
 have hold:(U (bV [])).size=(U L).size:=by rw [bP,bP,hlen]; rfl
 have hZ:Arr 224 (w.alloc (.cells (U (bV [])) 224)) w.heap.size (bV []):=Arr.new w _;have hrow:=hZ.row L;have hdone:Below w.heap.size w ((w.alloc (.cells (U (bV [])) 224)).setRow w.heap.size (U L)):=below_setRow (Br.alloc (Nat.le_refl _) _) (Nat.le_refl _) _;have RW:=Hd hrow;have IN:=Hd hinfo;have OL:=Hd hold;have ON:=Hd hone;have HZ:=Hd hZ;clear hlen hone hinfo hold hZ hrow;go_enter Tryz.func153,Tryz.ntmps153;go_upto_region 1 with fail
 go_step
 refine wpList_build rfl _ _ rfl (by kernel_rfl) ?_;generalize hV:(Option.getD (Program.built _ _ _) #[])=V
 have hVE:V=U L:=by
  have h:S.KS=L:=HL;rw [← h];exact hV.symm.trans (by kernel_rfl)
 subst hVE;clear hV;refine wpList_store_row rfl 224 (.tmp 0) (.tmp 1) rfl w.heap.size (U L) rfl rfl 224 (U (bV [])) HZ.out IN.out OL.out ON.out ?_;go_wp2_with fail;exact bodyPost_ret (v:=.agg (U L)) (results_cell_row Tryz.results153 _ _ w.heap.size 224 (U L) (0,0) _ rfl RW.out Tryz.underlying224 rfl IN.out) rfl ⟨rfl,hdone⟩
theorem MY (w:World) :
  Calls Tryz.prog 153 #[] w fun e w' => e=.returned (.agg (U S.KS))∧Below w.heap.size w w' :=
 EH _ w (show IsK _ from rfl)
theorem aEY (x:Nat):S.S1 x=S.x3 (S.rot x 6) (S.rot x 11) (S.rot x 25):=rfl
theorem aEZ (x:Nat):S.S0 x=S.x3 (S.rot x 2) (S.rot x 13) (S.rot x 22):=rfl
theorem aEP (e f g:Nat):S.ch e f g=(e &&& f) ^^^ ((4294967295 ^^^ e) &&& g):=rfl
theorem aC2 (a b c:Nat):S.maj a b c=S.x3 (a &&& b) (a &&& c) (b &&& c):=rfl
theorem wB (a b c:Nat) (ha:a < 4294967296) (hb:b < 4294967296) (hc:c < 4294967296):bits .xor .u32 (bits .xor .u32 (a:Int) (b:Int)) (c:Int)=(S.x3 a b c:Int):=by
 rw [dI a b ha hb,dI _ c (S.xor_lt ha hb) hc,RX]
theorem aBO (e f g:Nat) (he:e < 4294967296) (hf:f < 4294967296) (hg:g < 4294967296):bits .xor .u32 (bits .and .u32 (e:Int) (f:Int)) (bits .and .u32 (bits .xor .u32 IntKind.u32.max (e:Int)) (g:Int))=(S.ch e f g:Int):=by
 have hm:IntKind.u32.max=((4294967295:Nat):Int):=by decide
 rw [hm,gQ e f he hf,dI 4294967295 e (by decide) he,gQ _ g (S.xor_lt (by decide) he) hg,dI _ _ (S.and_lt he) (S.and_lt (S.xor_lt (by decide) he)),aEP]
theorem aD6 (s:S.St) (k w:Nat):S.t1 s k w=S.add (S.add (S.add (S.add s.h (S.S1 s.e)) (S.ch s.e s.f s.g)) k) w:=rfl
theorem aD5 (s:S.St):S.t2 s=S.add (S.S0 s.a) (S.maj s.a s.b s.c):=rfl
theorem tV (a b:Nat):S.add a b=(a + b) % 4294967296:=rfl
theorem JY (s:S.St) (k w:Nat) (he:s.e < 4294967296) (hf:s.f < 4294967296) (hg:s.g < 4294967296) :
  ((s.h:Int) + bits .xor .u32 (bits .xor .u32 (S.rot s.e 6:Int) (S.rot s.e 11:Int)) (S.rot s.e 25:Int) + bits .xor .u32 (bits .and .u32 (s.e:Int) (s.f:Int)) (bits .and .u32 (bits .xor .u32 IntKind.u32.max (s.e:Int)) (s.g:Int)) + (k:Int) + (w:Int)) % 4294967296=(S.t1 s k w:Int):=by
 rw [wB _ _ _ (S.rot_lt _ _ he) (S.rot_lt _ _ he) (S.rot_lt _ _ he),aBO _ _ _ he hf hg,← aEY,aD6,tV,tV,tV,tV];generalize S.S1 s.e=p;generalize S.ch s.e s.f s.g=q;omega
theorem JW (s:S.St) (ha:s.a < 4294967296) (hb:s.b < 4294967296) (hc:s.c < 4294967296) :
  (bits .xor .u32 (bits .xor .u32 (S.rot s.a 2:Int) (S.rot s.a 13:Int)) (S.rot s.a 22:Int) + bits .xor .u32 (bits .xor .u32 (bits .and .u32 (s.a:Int) (s.b:Int)) (bits .and .u32 (s.a:Int) (s.c:Int))) (bits .and .u32 (s.b:Int) (s.c:Int))) % 4294967296=(S.t2 s:Int):=by
 rw [wB _ _ _ (S.rot_lt _ _ ha) (S.rot_lt _ _ ha) (S.rot_lt _ _ ha),gQ _ _ ha hb,gQ _ _ ha hc,gQ _ _ hb hc,wB _ _ _ (S.and_lt ha) (S.and_lt ha) (S.and_lt hb),← aEZ,← aC2,aD5,tV];generalize S.S0 s.a=p;generalize S.maj s.a s.b s.c=q;omega
end Go.Proofs.YthcejfnngkmojaaGreatDoor
