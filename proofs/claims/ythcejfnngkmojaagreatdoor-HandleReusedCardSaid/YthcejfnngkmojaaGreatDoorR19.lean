/-
 Sa, Sf, Sg, So, Sv, Su, Hw, Ls, ShaMath, Arr, Sha1, Spread, Turn.
-/
import Derived.Test.YthcejfnngkmojaaGreatDoorR18
import Derived.Maps.OwnIn
import Derived.Test.YthcejfnngkmojaaGreatDoorR17
import Derived.Test.YthcejfnngkmojaaGreatDoorR15
import Derived.Test.YthcejfnngkmojaaGreatDoorR02
import Derived.Test.YthcejfnngkmojaaGreatDoorR03
import Derived.Test.YthcejfnngkmojaaGreatDoorR05
import Derived.Laws.Rows
import Derived.Laws.Tables
import Derived.BigRegion
import Derived.Outline
import Derived.Lib.OthersKept
import Derived.Deep.DeepCutAuto
import Derived.Laws.CopyOwn
namespace Go.Proofs.YthcejfnngkmojaaGreatDoor
open Go Go.RowKit
set_option maxRecDepth 20000
set_option maxHeartbeats 12800000
set_option linter.unusedVariables false
set_option linter.unusedSimpArgs false
theorem aDZ {w0 w:World} {R:List Nat} {t d s bi bt n:Nat} {E:List Ent} {ii:Int} (h:TxS w0 R w t d s n E) (hc:w.heap[bi]? = some (.cells #[.int .i64 ii] 3)) (hm:bi ∈ R ∧ bi ≠ t) (hi:ii < 1 ∨ 200 < ii) :
  Calls Tryz.prog 61 #[.pointer (some ⟨bi,0,none⟩),.pointer (some ⟨bt,0,none⟩)] w fun e w' => e = .returned (.tuple #[.agg #[.int .i64 0,.int .i64 0,.int .i64 0,.int .u64 0],.int .i64 3]) ∧ TxS w0 R w' t d s n E ∧ KeptT R t w w' := by
 obtain ⟨a1,a2,a3,a4,a5,a6,a7⟩:=h.box (.cells #[.int .i64 0,.int .i64 0,.int .i64 0,.int .u64 0] 37);obtain ⟨r3,hr3⟩:∃ r3,w.heap.size = r3:=⟨_,rfl⟩
 obtain ⟨x1,hx1⟩:∃ x1,w.alloc (.cells #[.int .i64 0,.int .i64 0,.int .i64 0,.int .u64 0] 37) = x1:=⟨_,rfl⟩
 rw [hx1] at a1 a2 a3 a5;rw [hr3] at a1 a3 a4 a5 a6 a7;have X1:=Hd hx1;have HR4:=Hd (And.intro a6 a7);have A3:=Hd (And.intro a3 a4);have A2:=Hd (And.intro a2 a1);have d0:=(aG ((a2 bi hm.1 hm.2).trans hc)).1;clear h hc hm a1 a2 a3 a4 a5 a6 a7 hx1
 rcases hi with hi | hi
 ·have e1:ii < 1:=hi
  clear hi;go_enter Tryz.func61,Tryz.ntmps61;go_upto_region 1 with fail
  rw [X1.out];clear hr3;go_upto_region 2 with fail
  obtain ⟨⟨y0,y1,y2,y3⟩,u0,u1,u2,u3⟩:=aX A3.out.1;obtain ⟨n1,n2⟩:=set4 A3.out.1 (.int .i64 0) (.int .i64 0) (.int .i64 0) (.int .u64 0)
  have FIN:Hid ((st4 x1 r3 (.int .i64 0) (.int .i64 0) (.int .i64 0) (.int .u64 0)).heap[r3]? = some (.cells #[.int .i64 0,.int .i64 0,.int .i64 0,.int .u64 0] 37) ∧ TxS w0 R (st4 x1 r3 (.int .i64 0) (.int .i64 0) (.int .i64 0) (.int .u64 0)) t d s n E ∧ KeptT R t w (st4 x1 r3 (.int .i64 0) (.int .i64 0) (.int .i64 0) (.int .u64 0))):=Hd (by
   refine ⟨n1,((A2.out.2).turn (k:=r3) (by simp) A3.out.2 HR4.out.1 n2).sub (fun k hk=>by simp [hk]),fun k hk hn=>?_⟩;exact (n2.block k ((A2.out.2).lt.1 k (by simp [hk])) (HR4.out.2 k hk)).trans (A2.out.1 k hk hn))
  unfold st4 at FIN;clear n1 n2;go_wp2_with fail;exact bodyPost_ret (v:=.tuple #[.agg #[.int .i64 0,.int .i64 0,.int .i64 0,.int .u64 0],.int .i64 3]) (aL (fn:=Tryz.f61) rfl _ _ r3 37 _ (0,0) _ _ rfl rfl FIN.out.1 Tryz.underlying37 rfl dO) rfl ⟨rfl,FIN.out.2⟩
 ·have e1:¬ ii < 1:=by omega
  have e2:(200:Int) < ii:=hi;clear hi;go_enter Tryz.func61,Tryz.ntmps61;go_upto_region 1 with fail
  rw [X1.out];clear hr3;go_upto_region 2 with fail
  obtain ⟨⟨y0,y1,y2,y3⟩,u0,u1,u2,u3⟩:=aX A3.out.1;obtain ⟨n1,n2⟩:=set4 A3.out.1 (.int .i64 0) (.int .i64 0) (.int .i64 0) (.int .u64 0)
  have FIN:Hid ((st4 x1 r3 (.int .i64 0) (.int .i64 0) (.int .i64 0) (.int .u64 0)).heap[r3]? = some (.cells #[.int .i64 0,.int .i64 0,.int .i64 0,.int .u64 0] 37) ∧ TxS w0 R (st4 x1 r3 (.int .i64 0) (.int .i64 0) (.int .i64 0) (.int .u64 0)) t d s n E ∧ KeptT R t w (st4 x1 r3 (.int .i64 0) (.int .i64 0) (.int .i64 0) (.int .u64 0))):=Hd (by
   refine ⟨n1,((A2.out.2).turn (k:=r3) (by simp) A3.out.2 HR4.out.1 n2).sub (fun k hk=>by simp [hk]),fun k hk hn=>?_⟩;exact (n2.block k ((A2.out.2).lt.1 k (by simp [hk])) (HR4.out.2 k hk)).trans (A2.out.1 k hk hn))
  unfold st4 at FIN;clear n1 n2;go_wp2_with fail;exact bodyPost_ret (v:=.tuple #[.agg #[.int .i64 0,.int .i64 0,.int .i64 0,.int .u64 0],.int .i64 3]) (aL (fn:=Tryz.f61) rfl _ _ r3 37 _ (0,0) _ _ rfl rfl FIN.out.1 Tryz.underlying37 rfl dO) rfl ⟨rfl,FIN.out.2⟩
theorem VR {w0 w:World} {R:List Nat} {t d s bi bt n:Nat} {E:List Ent} {ii:Int} {q:Int} (h:TxS w0 R w t d s n E) (hc:w.heap[bi]? = some (.cells #[.int .i64 ii] 3)) (hb:w.heap[bt]? = some (.cells #[.pointer (some ⟨t,0,none⟩)] 24)) (hm:(bi ∈ R ∧ bi ≠ t) ∧ (bt ∈ R ∧ bt ≠ t)) (hE:E.length ≤ 600) (hi:1 ≤ ii ∧ ii ≤ 200) (hq:dJ 4 0 ii = q) (hqr:0 ≤ q ∧ q ≤ 18446744073709551615) {S:ByteArray} {ca ep nn:Int} (hg:iG q E = true) (hv:gW q E = S) (hok:mT ii S = true) (h3:tsC S = ca) (h4:tsE S = ep) (h5:tsN S = nn) :
  Calls Tryz.prog 61 #[.pointer (some ⟨bi,0,none⟩),.pointer (some ⟨bt,0,none⟩)] w fun e w' => e = .returned (.tuple #[.agg #[.int .i64 ii,.int .i64 ca,.int .i64 ep,.int .u64 nn],.int .i64 0]) ∧ TxS w0 R w' t d s n E ∧ KeptT R t w w' := by
 obtain ⟨a1,a2,a3,a4,a5,a6,a7⟩:=h.box (.cells #[.int .i64 0,.int .i64 0,.int .i64 0,.int .u64 0] 37);obtain ⟨r3,hr3⟩:∃ r3,w.heap.size = r3:=⟨_,rfl⟩
 obtain ⟨x1,hx1⟩:∃ x1,w.alloc (.cells #[.int .i64 0,.int .i64 0,.int .i64 0,.int .u64 0] 37) = x1:=⟨_,rfl⟩
 rw [hx1] at a1 a2 a3 a5;rw [hr3] at a1 a3 a4 a5 a6 a7;have X1:=Hd hx1;have HR4:=Hd (And.intro a6 a7);have A3:=Hd (And.intro a3 a4);have A2:=Hd (And.intro a2 a1);have d0:=(aG ((a2 bi hm.1.1 hm.1.2).trans hc)).1;have HX:=Hd hm;have HS0:=Hd (show (fun w' : World=>w'.heap[bi]? = some (.cells #[.int .i64 ii] 3) ∧ w'.heap[bt]? = some (.cells #[.pointer (some ⟨t,0,none⟩)] 24)) x1.drew from ⟨(a2 bi hm.1.1 hm.1.2).trans hc,(a2 bt hm.2.1 hm.2.2).trans hb⟩);have HQ:=Hd hq;have e1:¬ ii < 1:=by omega
 have e2:¬ (200:Int) < ii:=by omega
 have GE:=Hd (AP (key:=q) (a1.below Br.drew) hE hqr S true hv hg);have TA:=Hd (fun w=>by have:=vU ii S w; unfold tsV okE at this; rw [hok,if_pos rfl,if_pos rfl,h3,h4,h5] at this; exact this);clear hg hv hok h3 h4 h5;clear h hc hb hm hE hi hq hqr a1 a2 a3 a4 a5 a6 a7 hx1;go_enter Tryz.func61,Tryz.ntmps61;go_upto_region 1 with fail
 rw [X1.out];clear hr3;go_upto_region 3 with fail
 clear d0;refine wp_region_held_drew (S:=fun w' => w'.heap[bi]? = some (.cells #[.int .i64 ii] 3) ∧ w'.heap[bt]? = some (.cells #[.pointer (some ⟨t,0,none⟩)] 24)) (by kernel_rfl) HS0.out (fun hS=>?_);refine Hv 0 14 ?vb0x1 hS ?hb0x1 ?_
 case hb0x1 =>
  intro w9 s9;have k9:=(aG s9.2).1;clear s9;go_simp;try (with_reducible rfl)
 simp only [SL];refine Hv 1 15 ?vb1x2 hS ?hb1x2 ?_
 case hb1x2 =>
  intro w9 s9;have k9:=(aG s9.1).1;clear s9;go_simp;try (with_reducible rfl)
 simp only [SL];refine Hs 2 (fun K HK=>?_);go_simp;go_wp2_with fail;refine (IL ii q _ HQ.out).mono ?_;rintro e w6 ⟨rfl,rfl⟩;refine HK.out _ _ ?_ ?_
 ·exact hS
 clear HK K;try simp only [Act.put,SL]
 refine Hs 3 (fun K HK=>?_);go_simp;go_wp2_with fail;refine GE.out.mono ?_;rintro e w7 ⟨rfl,h1,h2⟩;refine HK.out _ _ ?_ ?_
 ·exact ⟨(h2 bi (by simp [HX.out.1.1]) HX.out.1.2).trans hS.1,(h2 bt (by simp [HX.out.2.1]) HX.out.2.2).trans hS.2⟩
 clear HK K;try simp only [Act.put,SL]
 have hS9:=(show (_ ∧ _) from ⟨(h2 bi (by simp [HX.out.1.1]) HX.out.1.2).trans hS.1,(h2 bt (by simp [HX.out.2.1]) HX.out.2.2).trans hS.2⟩)
 clear hS;have hS:=hS9;clear hS9;have F7:=Hd (And.intro h1 (show KeptT (r3 :: R) t x1 w7 from h2));clear h1 h2 GE;refine Hu 4 13 hS ?_;simp only [SL];refine Hu 5 18 hS ?_;simp only [SL];refine Hu 6 19 hS ?_;simp only [SL];refine Hu 7 4 hS ?_;simp only [SL];refine Hu 8 5 hS ?_;simp only [SL];refine wpAnyH_done (by kernel_rfl) ?_ _;have c7:=(aG hS.1).1;clear hS;have r7:=(F7.out.2 r3 (by simp) A3.out.2).trans A3.out.1;go_wp2_with fail;refine (TA.out _).mono ?_;rintro e w8 ⟨rfl,b8⟩;have r8:=eS r7 b8;have F8:=Hd (And.intro (F7.out.1.below b8) (F7.out.2.trans (F7.out.1.kept b8)))
 clear r7 b8 c7;obtain ⟨⟨y0,y1,y2,y3⟩,u0,u1,u2,u3⟩:=aX r8;obtain ⟨n1,n2⟩:=set4 r8 (.int .i64 ii) (.int .i64 ca) (.int .i64 ep) (.int .u64 nn)
 have FIN:Hid ((st4 w8 r3 (.int .i64 ii) (.int .i64 ca) (.int .i64 ep) (.int .u64 nn)).heap[r3]? = some (.cells #[.int .i64 ii,.int .i64 ca,.int .i64 ep,.int .u64 nn] 37) ∧ TxS w0 R (st4 w8 r3 (.int .i64 ii) (.int .i64 ca) (.int .i64 ep) (.int .u64 nn)) t d s n E ∧ KeptT R t w (st4 w8 r3 (.int .i64 ii) (.int .i64 ca) (.int .i64 ep) (.int .u64 nn))):=Hd (by
  refine ⟨n1,((F8.out.1).turn (k:=r3) (by simp) A3.out.2 HR4.out.1 n2).sub (fun k hk=>by simp [hk]),fun k hk hn=>?_⟩;exact (n2.block k ((F8.out.1).lt.1 k (by simp [hk])) (HR4.out.2 k hk)).trans ((fun k hk hn=>(F8.out.2 k (by simp [hk]) hn).trans (A2.out.1 k hk hn)) k hk hn))
 unfold st4 at FIN;clear n1 n2;go_wp2_with fail;exact bodyPost_ret (v:=.tuple #[.agg #[.int .i64 ii,.int .i64 ca,.int .i64 ep,.int .u64 nn],.int .i64 0]) (aL (fn:=Tryz.f61) rfl _ _ r3 37 _ (0,0) _ _ rfl rfl FIN.out.1 Tryz.underlying37 rfl dO) rfl ⟨rfl,FIN.out.2⟩
theorem RK {w0 w:World} {R:List Nat} {t d s n:Nat} {E:List Ent} {ii q:Int} {S:ByteArray} {ca ep nn:Int} (h:TxS w0 R w t d s n E) (hE:E.length ≤ 600) (hi:1 ≤ ii ∧ ii ≤ 200) (hq:dJ 4 0 ii = q) (hqr:0 ≤ q ∧ q ≤ 18446744073709551615) (hg:iG q E = true) (hv:gW q E = S) (hok:mT ii S = true) (h3:tsC S = ca) (h4:tsE S = ep) (h5:tsN S = nn) :
  Calls Tryz.prog 24 #[.pointer (some ⟨t,0,none⟩),.int .i64 ii] w fun e w' => e = .returned (.tuple #[.agg #[.int .i64 ii,.int .i64 ca,.int .i64 ep,.int .u64 nn],.int .i64 0]) ∧ TxS w0 R w' t d s n E ∧ KeptT R t w w' :=
 aBF h (.inl ⟨rfl,rfl,rfl,rfl,rfl⟩) fun R' wa b0 b1 hT g0 g1 gm=>VR hT g1 g0 ⟨gm.2,gm.1⟩ hE hi hq hqr hg hv hok h3 h4 h5
def lH (cap:Int) (e:Ent):Bool:=fU (tsC e.2) && (tsC e.2 == cap)
def bI (cap:Int) (Ys:List Ent):List (Int × Int):=(Ys.filter (lH cap)).map fun e=>(spB e.1,tsE e.2 + 1)
theorem qL (cap:Int) (pre:List Ent) (e:Ent):bI cap (pre ++ [e]) = if lH cap e = true then bI cap pre ++ [(spB e.1,tsE e.2 + 1)] else bI cap pre:=by
 unfold bI;rw [List.filter_append,List.map_append]
 cases h:lH cap e <;> simp [List.filter_cons,h]
theorem sX (cap:Int) (Ys:List Ent):(bI cap Ys).length ≤ Ys.length:=by
 unfold bI;rw [List.length_map];exact List.length_filter_le ..
def vY (p:Int × Int):List Value:=[.int .i64 p.1,.int .i64 0,.int .i64 p.2,.int .u64 0]
def qD (L:List (Int × Int)):List Value:=(L.map vY).flatten
theorem DJ (L:List (Int × Int)) (x:Int × Int):qD (L ++ [x]) = qD L ++ vY x:=by simp [qD]
theorem kY:∀ (L:List (Int × Int)) (i:Nat) (x:Int × Int) (q:Nat),L[i]? = some x → q < 4 → (qD L)[i * 4 + q]? = (vY x)[q]?
 | [],i,x,q,h,_=>by simp at h
 | y :: L,0,x,q,h,hq=>by
  have e:y = x:=by simpa using h
  subst e;unfold qD;rw [List.map_cons,List.flatten_cons,Nat.zero_mul,Nat.zero_add,List.getElem?_append_left (by simpa [vY] using hq)]
 | y :: L,i + 1,x,q,h,hq=>by
  have h1:=kY L i x q (by simpa using h) hq;unfold qD at h1 ⊢;rw [List.map_cons,List.flatten_cons,List.getElem?_append_right (by simp [vY]; omega),← h1]
  congr 1
  simp [vY];omega
def dG (L:List (Int × Int)) (E:List Ent):List Ent:=L.foldl (fun E p=>bH (dJ 4 0 p.1) (bS 0 p.2 0) E) E
theorem FN (L:List (Int × Int)) (p:Int × Int) (E:List Ent):dG (L ++ [p]) E = bH (dJ 4 0 p.1) (bS 0 p.2 0) (dG L E):=by simp [dG]
theorem NF:∃ i z,Tryz.prog.info? 37 = some i ∧ i.zero = some z ∧ i.size = 4 ∧ i.bytes = 32 ∧ z.cells.size = 4:=by
 have h:(Tryz.prog.info? 37).bind (fun i=>i.zero.map fun z=>(i.size,i.bytes,z.cells.size)) = some (4,32,4):=by kernel_rfl
 cases hq:Tryz.prog.info? 37 with
 | none=>rw [hq] at h; cases h
 | some i =>
  rw [hq] at h
  cases hz:i.zero with
  | none=>simp [hz] at h
  | some z=>simp [hz] at h; exact ⟨i,z,rfl,hz,h.1,h.2.1,h.2.2⟩
def FrI (lb bc:Nat) (cap:Int) (pre:List Ent) (D:Nat → Prop) (W:World):Prop :=
 ∃ v,W.heap[lb]? = some (.cells #[v] 104) ∧ W.heap[bc]? = some (.cells #[.int .i64 cap] 3) ∧ W.ownsRow (lb + 1) 37 4 v (bI cap pre).length (qD (bI cap pre)) ∧ ∀ k,D k ↔ k = lb ∨ k = bc ∨ v.ownBlock = some k
theorem FrI.on {lb bc:Nat} {cap:Int} (pre:List Ent) (D:Nat → Prop) (A B:World) (h:FrI lb bc cap pre D A) (ho:OnC D A B):FrI lb bc cap pre D B:=by
 obtain ⟨v,h1,h2,h3,h4⟩:=h;have lt:∀ {k:Nat} {o:Obj},A.heap[k]? = some o → k < A.heap.size:=fun h=>(zl h)
 refine ⟨v,(ho.block _ (lt h1) ((h4 _).2 (.inl rfl))).trans h1,(ho.block _ (lt h2) ((h4 _).2 (.inr (.inl rfl)))).trans h2,⟨h3.1,?_⟩,h4⟩
 rcases h3.2 with hx | ⟨g,cap,cur,hv,hbg,hh,r⟩
 ·exact .inl hx
 ·exact .inr ⟨g,cap,cur,hv,hbg,(ho.block g (lt hh) ((h4 g).2 (.inr (.inr (by rw [hv]; rfl))))).trans hh,r⟩
theorem FrI.lt {lb bc:Nat} {cap:Int} (pre:List Ent) (D:Nat → Prop) (A:World) (h:FrI lb bc cap pre D A) (k:Nat) (hk:D k):k < A.heap.size:=by
 obtain ⟨v,h1,h2,h3,h4⟩:=h
 rcases (h4 k).1 hk with rfl | rfl | h5
 ·exact (zl h1)
 ·exact (zl h2)
 ·exact (h3.lt k h5).2
theorem FrI.same {lb bc:Nat} {cap:Int} {pre:List Ent} {x:Ent} {D:Nat → Prop} {A:World} (h:FrI lb bc cap pre D A) (hx:lH cap x = false):FrI lb bc cap (pre ++ [x]) D A:=by
 obtain ⟨v,h1,h2,h3,h4⟩:=h;exact ⟨v,h1,h2,by rw [qL,hx]; exact h3,h4⟩
theorem zF {P:Program} {fn:Func} {p q:Tmp} {ty tz:TypeId} (h:fn.results = #[.cell p ty,.cell q tz]) (tmps:Array Value) (w:World) (a b:Option Addr) (v u:Value)
  (hp:tmps.getD p undef = .pointer a) (hq:tmps.getD q undef = .pointer b)
  (h1:((asAddr (.pointer a)).run P w).andThen (fun a w₁=>(loadVar ty a).run P w₁) = .ok v w) (h2:((asAddr (.pointer b)).run P w).andThen (fun a w₁=>(loadVar tz a).run P w₁) = .ok u w) :
  (results fn tmps).run P w = .ok (.tuple #[v,u]) w:=by
 have e:(results fn tmps).run P w = (((asAddr (tmps.getD p undef)).run P w).andThen fun a w₁=>(loadVar ty a).run P w₁).andThen fun v w₂=>(((asAddr (tmps.getD q undef)).run P w₂).andThen fun a w₁=>(loadVar tz a).run P w₁).andThen fun u w₃=>.ok (.tuple #[v,u]) w₃:=by
  simp only [results,h];simp [Sem.run_bind,Result.andThen];generalize Sem.run P (asAddr (tmps[p]?.getD undef)) w = r
  cases r with
  | ok a w1 =>
   dsimp only
   generalize Sem.run P (loadVar ty a) w1 = r2
   cases r2 with
   | ok v1 w2 =>
    dsimp only
    generalize Sem.run P (asAddr (tmps[q]?.getD undef)) w2 = r3
    cases r3 with
    | ok b w3 =>
     dsimp only
    | halt x w1=>rfl
   | halt x w1=>rfl
  | halt x w1=>rfl
 rw [e,hp,h1]
 show (((asAddr (tmps.getD q undef)).run P w).andThen fun a w₁=>(loadVar tz a).run P w₁).andThen _ = _
 rw [hq,h2]
 rfl
theorem oN {ty:TypeId} {d:TypeDesc} (hd:(match d with | .struct _ | .array _ _=>true | _=>false) = false) (hu:Tryz.prog.underlying ty = some d) {w:World} {g:Nat} {v:Value} (h:w.cell? ⟨g,0,none⟩ = some v) :
  ((asAddr (.pointer (some ⟨g,0,none⟩))).run Tryz.prog w).andThen (fun a w₁=>(loadVar ty a).run Tryz.prog w₁) = .ok v w:=by
 have hagg:(isAgg ty).run Tryz.prog w = .ok false w:=by
  unfold isAgg;rw [Sem.run_bind,run_underlying hu w]
  cases d <;> first | rfl | (simp at hd)
 simp [asAddr,loadVar,Sem.run_bind,hagg,Result.andThen,h]
theorem DY {w w' : World} {B:Nat} {e:TypeId} {z:Nat} {v:Value} {n:Nat} {xs:List Value} (h:w.ownsRow B e z v n xs) (hk:∀ k,v.ownBlock = some k → w'.heap[k]? = w.heap[k]?):w'.ownsRow B e z v n xs:=by
 refine ⟨h.1,?_⟩
 rcases h.2 with hx | ⟨g,cap,cur,hv,hbg,hh,r⟩
 ·exact .inl hx
 ·exact .inr ⟨g,cap,cur,hv,hbg,(hk g (by rw [hv]; rfl)).trans hh,r⟩
theorem XU {w:World} {B:Nat} {a:Option Addr} {c:Nat} {L:List (Int × Int)} (h:w.ownsRow B 37 4 (.slice a L.length c) L.length (qD L)) {j:Nat} {p:Int × Int} (he:L[j]? = some p):∃ g,a = some ⟨g,0,none⟩ ∧ w.cell? ⟨g,j * 4,none⟩ = some (.int .i64 p.1) ∧ w.cell? ⟨g,j * 4 + 1,none⟩ = some (.int .i64 0) ∧ w.cell? ⟨g,j * 4 + 2,none⟩ = some (.int .i64 p.2) ∧ w.cell? ⟨g,j * 4 + 3,none⟩ = some (.int .u64 0):=by
 have hj:j < L.length:=(List.getElem?_eq_some_iff.1 he).1;have r0:=kY L j p 0 he (by decide);have r1:=kY L j p 1 he (by decide);have r2:=kY L j p 2 he (by decide);have r3:=kY L j p 3 he (by decide)
 rcases h.2 with ⟨_,h0⟩ | ⟨g,cap,cur,hv,_,hh,_⟩
 ·omega
 ·injection hv with h1 h2 h3
  subst h1 h3;exact ⟨g,rfl,(h.cellAt (j * 4) (by omega)).trans r0,(h.cellAt (j * 4 + 1) (by omega)).trans r1,(h.cellAt (j * 4 + 2) (by omega)).trans r2,(h.cellAt (j * 4 + 3) (by omega)).trans r3⟩
section
attribute [local go_sem] Oper.semAt_some
theorem UQ {w0 w:World} {R:List Nat} {t d s bt bc:Nat} {E Ys:List Ent} {cap:Int} (h:TxS w0 R w t d s 640 E) (hb:w.heap[bt]? = some (.cells #[.pointer (some ⟨t,0,none⟩)] 24)) (hc:w.heap[bc]? = some (.cells #[.int .i64 cap] 3)) (hm:(bt ∈ R ∧ bt ≠ t) ∧ (bc ∈ R ∧ bc ≠ t) ∧ w0.heap.size ≤ bt ∧ w0.heap.size ≤ bc) (hs:SlE E Ys)
  (hep:∀ e ∈ Ys,IntKind.i64.wrap (tsE e.2 + 1) = tsE e.2 + 1) (hP:∀ p ∈ bI cap Ys,bP p.1 0 p.2 = true) (hL:∀ k,(dG ((bI cap Ys).take k) E).length ≤ 300) :
  Calls Tryz.prog 59 #[.pointer (some ⟨bt,0,none⟩),.pointer (some ⟨bc,0,none⟩)] w fun e w' => e = .returned (.tuple #[.int .i64 (bI cap Ys).length,.int .i64 0]) ∧ TxS w0 R w' t d s 640 (dG (bI cap Ys) E) ∧ KeptT R t w w' := by
 obtain ⟨L,hLd⟩:∃ L,bI cap Ys = L:=⟨_,rfl⟩
 rw [hLd] at hP hL ⊢;have HLD:=Hd hLd;obtain ⟨n0,hn0⟩:∃ n0,w.heap.size = n0:=⟨_,rfl⟩
 obtain ⟨x1,hx1⟩:∃ x,w.alloc (.cells #[.int .i64 0] 3) = x:=⟨_,rfl⟩
 obtain ⟨x2,hx2⟩:∃ x,x1.alloc (.cells #[.int .i64 0] 26) = x:=⟨_,rfl⟩
 obtain ⟨x3,hx3⟩:∃ x,x2.alloc (.cells #[.slice none 0 0] 104) = x:=⟨_,rfl⟩
 obtain ⟨s1,m1,b1⟩:=bQ hx1 hn0;obtain ⟨s2,m2,b2⟩:=bQ hx2 s1;obtain ⟨s3,m3,b3⟩:=bQ hx3 s2;have b13:Below w.heap.size w x3:=(b1.trans (b2.mono (by omega))).trans (b3.mono (by omega));have n1:=(b3.block n0 (by omega)).trans ((b2.block n0 (by omega)).trans m1);have n2:=(b3.block (n0 + 1) (by omega)).trans m2;have hl:=h.lt;obtain ⟨F,hF,hnF,hFl⟩:=h.said;have lF3:=hF.lt;have hT3:=hF.below b13;have HNF:=Hd (And.intro hnF (And.intro hFl lF3));have ht3:=(b13.block bt (hl.1 bt hm.1.1)).trans hb;have hc3:=(b13.block bc (hl.1 bc hm.2.1.1)).trans hc
 have lbt:=hl.1 bt hm.1.1;have lbc:=hl.1 bc hm.2.1.1;have f0:=h.from.size;have HW:=Hd (And.intro hl (And.intro f0 (And.intro hn0 hm)));have HT3:=Hd hT3;have HB:=Hd (And.intro s3 (And.intro m3 (And.intro n2 (And.intro n1 (And.intro b13 (And.intro ht3 hc3))))));have HX:=Hd (And.intro hx1 (And.intro hx2 hx3));have HSL:=Hd (And.intro hs (And.intro hep (And.intro hP hL)));have HFR:=Hd (And.intro h.from (And.intro lbt lbc));have ct:=(aG ht3).1;have HLL:Hid (L.length ≤ 200):=Hd (by rw [← hLd]; exact Nat.le_trans (sX _ _) hs.m);have HC0:=Hd (And.intro hc h.from)
 clear h hb hc hm hs hep hP hL hLd hx1 hx2 hx3 s1 s2 s3 m1 m2 m3 b1 b2 b3 b13 n1 n2 hl hT3 ht3 hc3 lbt lbc f0 hF hnF hFl lF3;refine (callsIn_wide (n:=0)).1 (callsIn_of_wp_marks (F:=Fence.wide) (n:=0) Tryz.func59 rfl trivial (wpIn_wide.2 ?_) rfl);simp only [Tryz.ntmps59,List.size_toArray,List.length_cons,List.length_nil,Nat.reduceAdd,Nat.reduceSub,Array.replicate_succ,Array.replicate_zero,List.push_toArray,List.append_toArray,List.nil_append,List.cons_append];go_upto_region 2 with fail
 try rw [HX.out.1,HX.out.2.1,HX.out.2.2]
 try rw [hn0]
 clear hn0;go_wp2_with fail;refine (rT _ t).mono ?_;rintro e w4 ⟨rfl,m4,q4,s4⟩;rw [HB.out.1] at m4 q4 s4 ⊢;clear ct;go_wp2_with fail;have hb:=HB.out;have hw:=HW.out;have hF:=HT3.out;have hnF:=HNF.out.1;have lF3:=HNF.out.2.2;have hT4:=hF.below (by rw [hb.1]; exact q4);have lF:=hT4.lt;have hit:=rS hT4 (by have:=HSL.out.1.n; omega) HSL.out.1.s HSL.out.1.k m4 (by rw [HSL.out.1.y]; exact HSL.out.1.ok);rw [HSL.out.1.y] at hit
 have i4:FrI (n0 + 2) bc cap [] (fun k=>k = n0 + 2 ∨ k = bc ∨ (Value.slice none 0 0).ownBlock = some k) w4:=⟨_,(q4.block _ (by omega)).trans hb.2.1,(q4.block _ (by have:=HFR.out.2.2; omega)).trans hb.2.2.2.2.2.2,World.ownsRow_nil _ _ _ _,fun k=>Iff.rfl⟩
 refine (wpIn_wide (n:=0)).1 (pJ rfl (enters_of Tryz.func98 (by kernel_rfl) rfl) hit (fun Wz lz o hz hv=>?_) (fun k hk=>?_) (by intro _; rfl) (fun k=>k = n0 + 2 ∨ k = bc ∨ (Value.slice none 0 0).ownBlock = some k) (fun k hk hg=>?_) (FrI (n0 + 2) bc cap) (fun c pre D Wz=>False) FrI.on (fun c s D A B hh ho=>hh.elim) FrI.lt (fun c s D A hh=>hh.elim) i4 ?_ ?_ ?_)
 ·exact hv.frm (bT Wz lz o) fun k hk=>by subst hk; exact ⟨fun e=>by have:=lF.1 _ e; omega,by have:=lF.2.1; omega,by have:=hT4.from.size; omega⟩
 ·rcases hk with hk | rfl | rfl | hk
  ·exact lF.1 _ hk
  ·exact lF.2.1
  ·omega
  ·have:=hT4.from.size; omega
 ·have h1:=hw.2.2.1
  have h2:=HFR.out.2.2;have h3:=hw.2.1;have h4:=hw.2.2.2;have h5:=lF3.1;have hFb:=hnF bc h4.2.1.1;have htn:=hw.1.2
  rcases hk with rfl | rfl | hk
  ·rcases hg with hg | hg | hg | hg
   ·have:=h5 _ hg; omega
   ·omega
   ·omega
   ·omega
  ·rcases hg with hg | hg | hg | hg
   ·exact hFb hg
   ·exact h4.2.1.2 hg
   ·omega
   ·omega
  ·cases hk
 ·intro l' pre x D Wz hpre hI hD hz hnl hll
  obtain ⟨xk,xv⟩:=x;have hxe:IntKind.i64.wrap (tsE xv + 1) = tsE xv + 1:=HSL.out.2.1 (xk,xv) (hpre.subset (by simp));have hpl:pre.length ≤ 200:=by have h1:=hpre.length_le; have:=HSL.out.1.m; simp at h1; omega
  have HPL:=Hd hpl;obtain ⟨q,hq⟩:∃ q:Int,spB xk = q:=⟨_,rfl⟩
  unfold ZX;simp only [hq];have HQ:=Hd hq;clear hq hpl;gi_wp2;obtain ⟨Wa,hWa⟩:∃ Wa,Wz.alloc (.cells #[.int .i64 q,.int .i64 (tsC xv),.int .i64 (tsE xv),.int .u64 (tsN xv),.int .i64 0] 97) = Wa:=⟨_,rfl⟩
  obtain ⟨sa,ma,ba⟩:=bQ hWa rfl;rw [hWa];refine ⟨ba,fun Wb hfb hIb=>?_⟩;have mb:=(hfb.block _ (zl ma) (by omega)).trans ma;obtain ⟨z0,z1,z2,z3,z4⟩:=fR mb;have HI:=Hd hIb;have HMB:=Hd mb;obtain ⟨lv,hlv⟩:∃ b,fU (tsC xv) = b:=⟨_,rfl⟩
  have LV:=Hd (fun w=>lK q (tsC xv) (tsE xv) (tsN xv) 0 w lv hlv);have HLV:=Hd hlv;clear sa ma ba hWa hfb mb hlv hIb
  gi_wp2_with fail
  refine ⟨trivial,rfl,?_⟩;refine (CallsIn.inRound l' (callsIn_wide.2 (LV.out _))).mono ?_;rintro e w8 ⟨rfl,b8⟩;have I8:=FrI.on _ _ _ _ HI.out (.of_frm (G:=fun _=>False) (Frm.of_below b8) fun _ _ h=>h);have mx8:=(b8.block _ (zl HMB.out)).trans HMB.out;have HI8:=Hd I8;have HB8:=Hd b8;obtain ⟨v,i1,i2,i3,i6⟩:=I8;clear z0 z1 z2 z3 z4 b8
  cases lv
  ·clear i1 i2 i3 i6 mx8
   gi_wp2_with fail
   refine ⟨D,⟨(Frm.of_below (F:=fun _=>False) HB8.out).mono fun _ h=>h.elim,fun k hk=>.inl hk⟩,FrI.same HI8.out ?_⟩;unfold lH;rw [HLV.out]
   rfl
  ·obtain ⟨z0,z1,z2,z3,z4⟩:=fR mx8
   have kc:=(aG i2).1;obtain ⟨cb,hcb⟩:∃ b,(tsC xv == cap) = b:=⟨_,rfl⟩
   have HCB:=Hd hcb
   cases cb
   ·clear i1 i2 i3 i6 mx8
    gi_wp2_with fail
    refine ⟨D,⟨(Frm.of_below (F:=fun _=>False) HB8.out).mono fun _ h=>h.elim,fun k hk=>.inl hk⟩,FrI.same HI8.out ?_⟩;unfold lH;rw [HLV.out,HCB.out]
    rfl
   ·obtain ⟨d1,d1f⟩:=aG i1
    obtain ⟨va,vc,rfl,hv1,hv2⟩:=bU i3;obtain ⟨i,z,hi,hz0,hz1,hz2,hz3⟩:=NF;obtain ⟨m,hm⟩:∃ m,(bI cap pre).length = m:=⟨_,rfl⟩
    rw [hm] at i3 i6 hv1;have OWN:=Hd i3;have HD:=Hd i6;have HM:=Hd hm;have HB1:=Hd (And.intro i1 i2);have hlen:m ≤ 200:=by rw [← hm]; exact Nat.le_trans (sX _ _) HPL.out
    rw [hm] at d1;clear i1 i2 i3 i6 mx8 hm
    gi_wp2_with (gi_at_builtin; refine wpListIn_append_own_at _ rfl (.tmp 25) (.tmp 34) 104 rfl (n0 + 2 + 1) 37 i z 4 32 Tryz.underlying104 hi hz0 hz1 hz2 hz3 (by decide) _ _ _ rfl (OWN.out.alloc _) ⟨w8.heap.size,0,none⟩ 1 1 (vY (q,tsE xv + 1)) rfl rfl ?c1 ?c2 ?c3 ?c4 ?c5 ?_)
    case c1 =>
     intro j u hj;obtain ⟨⟨g0,g1,g2,g3⟩,_⟩:=aX (han w8 (.cells #[.int .i64 q,.int .i64 0,.int .i64 (tsE xv + 1),.int .u64 0] 37))
     match j,hj with
     | 0,hj=>injection hj with hj; subst hj; exact g0
     | 1,hj=>injection hj with hj; subst hj; exact g1
     | 2,hj=>injection hj with hj; subst hj; exact g2
     | 3,hj=>injection hj with hj; subst hj; exact g3
     | j + 4,hj=>simp [vY] at hj
    case c2 =>
     intro u hu;simp only [vY,List.mem_cons,List.not_mem_nil,or_false] at hu
     rcases hu with rfl | rfl | rfl | rfl <;> rfl
    case c3=>unfold maxLen; omega
    case c4=>omega
    case c5 =>
     have:=FrI.lt _ _ _ HI8.out (n0 + 2) ((HD.out _).2 (.inl rfl));simp;omega
    intro v' w9 hown' hgrow hnil hat;rw [← DJ] at hown';have olt:∀ k,(Value.slice va m vc).ownBlock = some k → n0 + 2 + 1 ≤ k ∧ k < w8.heap.size:=fun k hk=>OWN.out.lt k hk
    have lb9:=FrI.lt _ _ _ HI8.out (n0 + 2) ((HD.out _).2 (.inl rfl));have lm9:=FrI.lt _ _ _ HI8.out bc ((HD.out _).2 (.inr (.inl rfl)));have ks:∀ k,k < n0 + 3 → k < w8.heap.size → w9.heap[k]? = w8.heap[k]?:=fun k h1 h2=>(hgrow.block k (by simp; omega) (fun e=>by have:=olt k e.symm; omega)).trans (hao _ _ h2)
    have hbn:bc < n0:=by have h1:=HFR.out.2.2; have h2:=HW.out.2.2.1; omega
    have a1:=(ks _ (by omega) lb9).trans HB1.out.1;have a2:=(ks _ (by omega) lm9).trans HB1.out.2;obtain ⟨d1,d1f⟩:=aG a1;obtain ⟨va', vc', rfl,_,_⟩:=bU hown'
    have FR:Hid (∀ wf,w9.setCell ⟨n0 + 2,0,none⟩ (.slice va' (m + 1) vc') = wf → Own1 D Wb (fun k=>k = n0 + 2 ∨ k = bc ∨ (Value.slice va' (m + 1) vc').ownBlock = some k) wf ∧ FrI (n0 + 2) bc cap (pre ++ [(xk,xv)]) (fun k=>k = n0 + 2 ∨ k = bc ∨ (Value.slice va' (m + 1) vc').ownBlock = some k) wf):=Hd (fun wf hwf=>by
     have og:=hown'.lt;have hsz:=HB8.out.size;refine ⟨⟨?_,fun k hk=>?_⟩,?_⟩
     ·rw [← hwf]
      exact ((((Frm.of_below (F:=fun _=>False) HB8.out).mono fun _ h=>h.elim).alloc _).grown hgrow fun k hk=>.inl ((HD.out k).2 (.inr (.inr hk)))).setCell _ _ (.inl ((HD.out _).2 (.inl rfl)))
     ·rcases hk with rfl | rfl | hk
      ·exact .inl ((HD.out _).2 (.inl rfl))
      ·exact .inl ((HD.out _).2 (.inr (.inl rfl)))
      ·rcases hat with h1 | h1
       ·exact .inl ((HD.out k).2 (.inr (.inr (h1 ▸ hk))))
       ·rw [h1] at hk; injection hk with hk; exact .inr (by first | omega | (simp at hk; omega))
     ·have hg:lH cap (xk,xv) = true:=by unfold lH; rw [HLV.out,HCB.out]; rfl
      refine ⟨.slice va' (m + 1) vc', ?_,?_,?_,fun k=>Iff.rfl⟩
      ·rw [← hwf,hss _ _ 0 _ _ _ a1]; rfl
      ·rw [← hwf,heap_setCell_other _ _ _ _ (by show bc ≠ n0 + 2; omega)]; exact a2
      ·rw [← hwf,qL,if_pos hg,List.length_append,HM.out,HQ.out]
       exact ownsRow_setCell_other hown' (fun e=>by have:=(og _ e).1; simp at this) _)
    clear hown' hgrow hnil hat olt ks a1 a2 lb9 lm9 HB1 OWN HD hi hz0 hz1 hz2 hz3 hv1 hv2
    gi_wp2_with fail
    obtain ⟨f1,f2⟩:=FR.out _ rfl;exact ⟨_,f1,f2⟩
 ·intro D C' Wz hDz hI hV hfr hC' hnD hdef
  obtain ⟨v,j1,j2,j3,j4⟩:=hI;rw [HLD.out] at j3;obtain ⟨va,vc,rfl,hv1,hv2⟩:=bU j3;have h1:=hw.2.2.1;have h2:=HFR.out.2.2;have h3:=hw.2.1;have h4:=hw.2.2.2;have htn:=hw.1.2;have hDw:=(zl hdef);obtain ⟨RG,hRG⟩:∃ RG,(Value.slice va L.length vc).ownBlock.toList = RG:=⟨_,rfl⟩
  have rg:∀ k,k ∈ RG ↔ (Value.slice va L.length vc).ownBlock = some k:=fun k=>by rw [← hRG]; simp
  have rl:∀ k ∈ RG,n0 + 3 ≤ k ∧ k < Wz.heap.size:=fun k hk=>j3.lt k ((rg k).1 hk)
  have hFn:∀ k,F k → k < n0:=fun k hk=>by have:=lF3.1 k hk; omega
  have TS0:TxS w0 (RG ++ (n0 :: (n0 + 1) :: (n0 + 2) :: D :: R)) Wz t d s 640 E:=hV.hide fun k hk=>by
   have hz:=hfr.size
   rcases List.mem_append.1 hk with hk | hk
   ·have:=rl k hk
    exact ⟨this.2,fun e=>by have:=hFn k e; omega⟩
   ·simp only [List.mem_cons] at hk
    rcases hk with rfl | rfl | rfl | rfl | hk
    ·exact ⟨by omega,fun e=>by have:=hFn _ e; omega⟩
    ·exact ⟨by omega,fun e=>by have:=hFn _ e; omega⟩
    ·exact ⟨by omega,fun e=>by have:=hFn _ e; omega⟩
    ·exact ⟨hDw,fun e=>by have:=hFn _ e; omega⟩
    ·exact ⟨by have:=hw.1.1 k hk; omega,hnF k hk⟩
  have kept4:∀ k,k < n0 + 2 → k ≠ bc → ¬ F k → k ≠ t → w0.heap.size ≤ k → Wz.heap[k]? = x3.heap[k]?:=fun k e1 e2 e3 e4 e5=>by
   refine (hfr.block k (by omega) ?_).trans (q4.block k (by omega));rintro ((rfl | rfl | hk) | (hk | rfl | rfl | hk))
   ·omega
   ·exact e2 rfl
   ·cases hk
   ·exact e3 hk
   ·exact e4 rfl
   ·omega
   ·omega
  have KT0:KeptT R t w Wz:=fun k hk hn=>by
   have hkw:=hw.1.1 k hk
   by_cases hkb:k = bc
   ·rw [hkb]; exact j2.trans HC0.out.1.symm
   ·by_cases hk0:k < w0.heap.size
    ·exact (hV.from.block k hk0).trans (HC0.out.2.block k hk0).symm
    ·exact (kept4 k (by omega) hkb (hnF k hk) hn (by omega)).trans (hb.2.2.2.2.1.block k hkw)
  have r0:=(kept4 n0 (by omega) (by omega) (fun e=>by have:=hFn _ e; omega) (by omega) (by omega)).trans hb.2.2.2.1;have r1:=(kept4 (n0 + 1) (by omega) (by omega) (fun e=>by have:=hFn _ e; omega) (by omega) (by omega)).trans hb.2.2.1;have t0:=(KT0 bt h4.1.1 h4.1.2).trans ((hb.2.2.2.2.1.block bt (hw.1.1 bt h4.1.1)).symm.trans hb.2.2.2.2.2.1);have HZ:=Hd (And.intro j1 (And.intro j3 (And.intro r0 (And.intro r1 (And.intro t0 hdef)))));have HT0:=Hd TS0;have HK0:=Hd KT0
  have HR5:Hid ((∀ k,(Value.slice va L.length vc).ownBlock = some k → k ∈ RG) ∧ (∀ k ∈ RG,k ≠ t) ∧ n0 ≠ t ∧ n0 + 1 ≠ t ∧ n0 + 2 ≠ t ∧ D ≠ t ∧ (∀ k ∈ R,k ≠ n0 ∧ k ≠ n0 + 1 ∧ k ≠ D) ∧ (w0.heap.size ≤ n0 ∧ w0.heap.size ≤ n0 + 1 ∧ w0.heap.size ≤ D) ∧ n0 ≠ D ∧ n0 + 1 ≠ D):=Hd ⟨fun k hk=>(rg k).2 hk,fun k hk=>by have:=rl k hk; omega,by omega,by omega,by omega,by omega,fun k hk=>by have:=hw.1.1 k hk; omega,by omega,by omega,by omega⟩;have kl:=(aG j1).1;have hlen:(0:Int) ≤ (L.length:Int):=Int.natCast_nonneg _
  clear hit hfr hC' hnD hdef j1 j2 j3 j4 hV i4 kept4 TS0 KT0 r0 r1 t0 rl rg hRG h1 h2 h3 h4 htn hDw hDz hF hnF lF3 hT4 lF hFn hb hw q4 s4 m4;go_wp2_with fail
  go_loopw [38] (fun i wr=>∃ q:Nat,i = .int .i64 (q:Int) ∧ q ≤ L.length ∧ Hid (TxS w0 (RG ++ (n0 :: (n0 + 1) :: (n0 + 2) :: D :: R)) wr t d s 640 (dG (L.take q) E)) ∧ Hid (KeptT (RG ++ (n0 :: (n0 + 1) :: (n0 + 2) :: D :: R)) t Wz wr)) (fun i _=>L.length - (intOf i).toNat)
  case atStart=>exact ⟨0,rfl,Nat.zero_le _,HT0,Hd (KeptT.refl _ _ _)⟩
  case round =>
   obtain ⟨q,rfl,hq,HTr,HKr⟩:=hrel
   by_cases hlt:q < L.length
   ·have hli:(q:Int) < (L.length:Int):=by omega
    obtain ⟨p,hp⟩:∃ p,L[q]? = some p:=⟨_,List.getElem?_eq_getElem hlt⟩
    obtain ⟨g1,rfl,k0,k1,k2,k3⟩:=XU (DY HZ.out.2.1 fun k hk=>HKr.out k (List.mem_append_left _ (HR5.out.1 k hk)) (HR5.out.2.1 k (HR5.out.1 k hk))) hp;have e4:IntKind.i64.wrap ((q:Int) + 1) = ((q + 1:Nat):Int):=by rw [show (q:Int) + 1 = ((q + 1:Nat):Int) by omega]; exact IntWalk.i64_in _ (by have:=HLL.out; omega)
    have hmt:=HW.out.2.2.2.1;have kt:=(aG ((HKr.out bt (by simp [hmt.1]) hmt.2).trans HZ.out.2.2.2.2.1)).1;obtain ⟨a1,a2,a3,a4,a5,a6,a7⟩:=HTr.out.box (.cells #[.int .i64 p.1,.int .i64 0,.int .i64 p.2,.int .u64 0] 37);obtain ⟨y1,hy1⟩:∃ y,wr.alloc (.cells #[.int .i64 p.1,.int .i64 0,.int .i64 p.2,.int .u64 0] 37) = y:=⟨_,rfl⟩
    rw [hy1] at a1 a2 a3 a5;have kt1:=(aG ((a2 bt (by simp [hmt.1]) hmt.2).trans ((HKr.out bt (by simp [hmt.1]) hmt.2).trans HZ.out.2.2.2.2.1))).1;obtain ⟨⟨c0,c1,c2,c3⟩,_⟩:=aX a3;have PU:=Hd (yI (nn:=0) a1 (HSL.out.2.2.2 q) (HSL.out.2.2.1 p (List.mem_of_getElem? hp)) (by decide) rfl (by unfold bS; rw [ByteArray.size_append,ByteArray.size_append]; have h1:=eI 0 3 (by decide); have h2:=eI p.2 1 (by decide); have h3:=eI 0 8 (by decide); omega) (rfl:dJ 4 0 p.1 = dJ 4 0 p.1));have Y1:=Hd hy1;have HA2:=Hd a2
    have HQ:=Hd (And.intro hlt (show dG (L.take (q + 1)) E = bH (dJ 4 0 p.1) (bS 0 p.2 0) (dG (L.take q) E) from by rw [List.take_add_one,hp,Option.toList_some,FN]));clear hlt hq hp a1 a2 a3 a4 a5 a6 a7 hy1 hmt;go_upto_region 11 with fail
    try rw [Y1.out]
    clear k0 k1 k2 k3;go_wp2_with fail;refine PU.out.mono ?_;rintro e w6 ⟨rfl,h1,h2⟩;have F6:=Hd (And.intro (h1.sub (R' := RG ++ (n0 :: (n0 + 1) :: (n0 + 2) :: D :: R)) fun k hk=>List.mem_cons_of_mem _ hk) (HKr.out.trans (HA2.out.trans (h2.sub fun k hk=>List.mem_cons_of_mem _ hk))));clear h1 h2 PU c0 c1 c2 c3 kt kt1;go_wp2_with fail;go_roundw
    case rel=>exact ⟨q + 1,rfl,HQ.out.1,Hd (by rw [HQ.out.2]; exact F6.out.1),Hd F6.out.2⟩
    case measure=>have:=HQ.out.1; simp [intOf]; omega
   ·obtain rfl:q = L.length:=by omega
    have hli:¬ ((L.length:Nat):Int) < (L.length:Int):=by omega
    have kl6:=(aG ((HKr.out (n0 + 2) (by simp) HR5.out.2.2.2.2.1).trans HZ.out.1)).1;have r0:=(HKr.out n0 (by simp) HR5.out.2.2.1).trans HZ.out.2.2.1;have r1:=(HKr.out (n0 + 1) (by simp) HR5.out.2.2.2.1).trans HZ.out.2.2.2.1;have dd:=(HKr.out D (by simp) HR5.out.2.2.2.2.2.1).trans HZ.out.2.2.2.2.2;obtain ⟨c0,g0⟩:=aG r0;obtain ⟨c1,g1⟩:=aG r1;obtain ⟨y6,hy6⟩:∃ y6,(wr.setCell ⟨n0,0,none⟩ (.int .i64 (L.length:Int))).setCell ⟨n0 + 1,0,none⟩ (.int .i64 0) = y6:=⟨_,rfl⟩
    have f6:Frm (fun k=>k = n0 ∨ k = n0 + 1) wr y6:=by rw [← hy6]; exact ((Frm.refl (fun k=>k = n0 ∨ k = n0 + 1) wr).setCell ⟨n0,0,none⟩ _ (.inl (.inl rfl))).setCell ⟨n0 + 1,0,none⟩ _ (.inl (.inr rfl))
    have s0:y6.heap[n0]? = some (.cells #[.int .i64 (L.length:Int)] 3):=by
     rw [← hy6,heap_setCell_other _ _ _ _ (by show n0 ≠ n0 + 1; omega),hss _ _ 0 _ _ _ r0]
     rfl
    have s1:y6.heap[n0 + 1]? = some (.cells #[.int .i64 0] 26):=by
     rw [← hy6,hss _ _ 0 _ _ _ ((heap_setCell_other _ _ _ _ (by show n0 + 1 ≠ n0; omega)).trans r1)]
     rfl
    have T6:TxS w0 (RG ++ (n0 :: (n0 + 1) :: (n0 + 2) :: D :: R)) y6 t d s 640 (dG (L.take L.length) E):=by
     rw [← hy6];exact (HTr.out.turn (k:=n0) (by simp) HR5.out.2.2.1 HR5.out.2.2.2.2.2.2.2.1.1 ((Frm.refl (fun k=>k = n0) wr).setCell ⟨n0,0,none⟩ _ (.inl rfl))).turn (k:=n0 + 1) (by simp) HR5.out.2.2.2.1 HR5.out.2.2.2.2.2.2.2.1.2.1 ((Frm.refl (fun k=>k = n0 + 1) _).setCell ⟨n0 + 1,0,none⟩ _ (.inl rfl))
    have d6:=(f6.block D (zl dd) (by have:=HR5.out.2.2.2.2.2.2.2.2; omega)).trans dd;have HM:Hid (Marks y6 [D]):=Hd ((Marks.nil y6).cons (by simp) d6)
    have FIN:Hid (∀ W', Frm (fun k=>k ∈ [D]) y6 W' → W'.cell? ⟨n0,0,none⟩ = some (.int .i64 (L.length:Int)) ∧ W'.cell? ⟨n0 + 1,0,none⟩ = some (.int .i64 0) ∧ TxS w0 R W' t d s 640 (dG L E) ∧ KeptT R t w W'):=Hd fun W' hm=>by
     have hx:=HR5.out.2.2.2.2.2.2;have lt6:=T6.lt.1;refine ⟨(aG ((hm.block n0 (lt6 n0 (by simp)) (by simpa using hx.2.2.1)).trans s0)).1,(aG ((hm.block (n0 + 1) (lt6 (n0 + 1) (by simp)) (by simpa using hx.2.2.2)).trans s1)).1,?_,fun k hk hn=>?_⟩
     ·have g:=T6.turn (k:=D) (by simp) HR5.out.2.2.2.2.2.1 hx.2.1.2.2 (hm.mono fun k hk=>by simpa using hk)
      rw [List.take_length] at g;exact g.sub fun k hk=>by simp [hk]
     ·have hy:=hx.1 k hk
      exact (hm.block k (lt6 k (by simp [hk])) (by simpa using hy.2.2)).trans ((f6.block k (HTr.out.lt.1 k (by simp [hk])) (by omega)).trans ((HKr.out k (by simp [hk]) hn).trans (HK0.out k hk hn)))
    have HY6:=Hd hy6;clear r0 r1 dd f6 s0 s1 T6 d6 hy6 hq hlt;go_wp2_with fail;rw [HY6.out];refine gM [D] _ HM.out fun W' hm=>?_
    obtain ⟨u0,u1,u2,u3⟩:=FIN.out W' hm;exact ⟨_,zF (fn:=Tryz.f59) rfl _ W' _ _ _ _ rfl rfl (oN rfl Tryz.underlying3 u0) (oN rfl Tryz.underlying26 u1),rfl,u2,u3⟩
 ·intro D c pre C' W hD hpre hh
  exact hh.elim
end
theorem QV {w0 w:World} {R:List Nat} {t d s:Nat} {E Ys:List Ent} {cap:Int} (h:TxS w0 R w t d s 640 E) (hs:SlE E Ys)
  (hep:∀ e ∈ Ys,IntKind.i64.wrap (tsE e.2 + 1) = tsE e.2 + 1) (hP:∀ p ∈ bI cap Ys,bP p.1 0 p.2 = true) (hL:∀ k,(dG ((bI cap Ys).take k) E).length ≤ 300) :
  Calls Tryz.prog 23 #[.pointer (some ⟨t,0,none⟩),.int .i64 cap] w fun e w' => e = .returned (.tuple #[.int .i64 (bI cap Ys).length,.int .i64 0]) ∧ TxS w0 R w' t d s 640 (dG (bI cap Ys) E) ∧ KeptT R t w w' := by
 obtain ⟨a1,a2,a3,a4,a5,a6,a7⟩:=h.box (.cells #[.pointer (some ⟨t,0,none⟩)] 24);obtain ⟨x1,hx1⟩:∃ x1,w.alloc (.cells #[.pointer (some ⟨t,0,none⟩)] 24) = x1:=⟨_,rfl⟩
 rw [hx1] at a1 a2 a3 a5;obtain ⟨b1,b2,b3,b4,b5,b6,b7⟩:=a1.box (.cells #[.int .i64 cap] 3);obtain ⟨x2,hx2⟩:∃ x2,x1.alloc (.cells #[.int .i64 cap] 3) = x2:=⟨_,rfl⟩
 rw [hx2] at b1 b2 b3 b5;rw [a5] at b1 b3 b4 b5 b6 b7;have hbk:=(b2 w.heap.size (by simp) a4).trans a3
 have VC:=Hd (mA (hk:=fun w=>by kernel_rfl) (x:=(bI cap Ys).length) (e:=0) (y:=(bI cap Ys).length) b1 (.inl ⟨rfl,rfl⟩) (caps:=#[.pointer (some ⟨w.heap.size,0,none⟩),.pointer (some ⟨w.heap.size + 1,0,none⟩)]) (E' := dG (bI cap Ys) E) (fun R' wa hs' hT hK=>by
  have g1:=(hK (w.heap.size + 1) (by simp) b4).trans b3;have g2:=(hK w.heap.size (by simp) a4).trans hbk;exact UQ hT g2 g1 ⟨⟨hs' _ (by simp),a4⟩,⟨hs' _ (by simp),b4⟩,a6,b6⟩ hs hep hP hL))
 have KP:=Hd (a2.trans (b2.sub (fun k hk=>by simp [hk])));have X1:=Hd hx1;have X2:=Hd hx2;have A5:=Hd a5;have bx:=(aG hbk).1;obtain ⟨L,hL⟩:∃ L,bI cap Ys = L:=⟨_,rfl⟩
 rw [hL] at VC ⊢;clear h hs hep hP hL a1 a2 a3 a4 a5 a6 a7 b1 b2 b3 b4 b5 b6 b7 hx1 hx2 hbk;go_enter Tryz.func23,Tryz.ntmps23;go_upto_region 1 with fail
 try simp only [World.heap_size_alloc]
 rw [X1.out,X2.out];go_wp2_with fail;refine VC.out.mono ?_;rintro e w2 ⟨rfl,h1,h2⟩;have FIN:Hid (TxS w0 R w2 t d s 640 (dG L E) ∧ KeptT R t w w2):=Hd ⟨h1.sub (fun k hk=>by simp [hk]),KP.out.trans (h2.sub (fun k hk=>by simp [hk]))⟩;clear h1 h2 VC bx;go_wp2_with fail;go_ret2;exact ⟨rfl,FIN.out⟩
theorem aCM {id c e n:Int} (h:bP id c e = true) (n0:0 ≤ n) (n1:n ≤ 18446744073709551615):(cS c 3 = true ∧ 0 ≤ c) ∧ (cS e 1 = true ∧ 0 ≤ e) ∧ (cS n 8 = true ∧ 0 ≤ n):=by
 have:=jN h;obtain ⟨c', rfl⟩:=Int.eq_ofNat_of_zero_le (show 0 ≤ c by omega);obtain ⟨e', rfl⟩:=Int.eq_ofNat_of_zero_le (show 0 ≤ e by omega);obtain ⟨n', rfl⟩:=Int.eq_ofNat_of_zero_le n0;refine ⟨⟨(bJ c' 3).2 ⟨by decide,by decide,?_⟩,by omega⟩,⟨(bJ e' 1).2 ⟨by decide,by decide,?_⟩,by omega⟩,⟨(bJ n' 8).2 ⟨by decide,by decide,?_⟩,by omega⟩⟩
 ·show c' < 16777216; omega
 ·show e' < 256; omega
 ·show n' < 18446744073709551616; omega
theorem tJ {id c e n:Int} (h:bP id c e = true) (n0:0 ≤ n) (n1:n ≤ 18446744073709551615):tsC (bS c e n) = c ∧ tsE (bS c e n) = e ∧ tsN (bS c e n) = n:=by
 obtain ⟨p0,p1,p2⟩:=aCM h n0 n1;have q0:=fun rest=>qQ (n:=c) (k:=3) rest p0.2 p0.1
 have q1:=fun rest=>qQ (n:=e) (k:=1) rest p1.2 p1.1
 have q2:=fun rest=>qQ (n:=n) (k:=8) rest p2.2 p2.1
 have e:bS c e n = Str (aI c 3) ++ (Str (aI e 1) ++ (Str (aI n 8) ++ ⟨#[]⟩)):=by
  unfold bS; rw [oZ,ByteArray.append_assoc]
 unfold tsC tsE tsN;rw [e,(q0 _).2,(q1 _).2];exact ⟨(q0 _).1,(q1 _).1,(q2 _).1⟩
theorem JL {id c e n:Int} (h:bP id c e = true) (n0:0 ≤ n) (n1:n ≤ 18446744073709551615):mT id (bS c e n) = true:=by
 obtain ⟨e0,e1,e2⟩:=tJ h n0 n1;unfold mT rU;rw [e0,e1,e2,h];simp
def slK (i:Nat):Int:=4611686018427387905 + (i:Int)
theorem kD {i:Nat} (hi:i < 200):dJ 4 0 ((i + 1:Nat):Int) = slK i:=by
 have h:fV 4 0 ((i + 1:Nat):Int) = true:=by
  unfold fV;simp;omega
 unfold dJ slK;rw [if_pos h];omega
theorem mU {i:Nat} (hi:i < 200):spB (slK i) = (i:Int) + 1 ∧ jU (slK i) 4 0 = true:=by
 have h1:spK (slK i) = 4:=by unfold spK slK; omega
 have h2:spA (slK i) = 0:=by unfold spA slK; omega
 refine ⟨by unfold spB slK; omega,?_⟩;unfold jU;rw [h1,h2]
 rfl
def slV (x:Int × Int × Int):ByteArray:=bS x.1 x.2.1 x.2.2
def slE:Nat → List (Int × Int × Int) → List Ent
 | _,[]=>[]
 | i,x :: L=>(slK i,slV x) :: slE (i + 1) L
theorem mW:∀ (L:List (Int × Int × Int)) (i j:Nat),(slE i L)[j]? = L[j]?.map fun x=>(slK (i + j),slV x)
 | [],i,j=>by simp [slE]
 | x :: L,i,0=>by simp [slE]
 | x :: L,i,j + 1=>by
  rw [slE,List.getElem?_cons_succ,List.getElem?_cons_succ,mW L (i + 1) j,show i + 1 + j = i + (j + 1) by omega]
theorem iU:∀ (L:List (Int × Int × Int)) (i:Nat),(slE i L).length = L.length
 | [],i=>rfl
 | x :: L,i=>by rw [slE,List.length_cons,List.length_cons,iU L (i + 1)]
theorem lS:∀ (L:List (Int × Int × Int)) (i:Nat),∀ e ∈ slE i L,slK i ≤ e.1
 | [],i,e,h=>by simp [slE] at h
 | x :: L,i,e,h=>by
  rw [slE,List.mem_cons] at h
  rcases h with rfl | h
  ·exact Int.le_refl _
  ·have:=lS L (i + 1) e h
   unfold slK at this ⊢;omega
theorem rX:∀ (L:List (Int × Int × Int)) (i:Nat),kR (slE i L)
 | [],i=>List.Pairwise.nil
 | x :: L,i=>by
  rw [slE];refine List.Pairwise.cons (fun e he=>?_) (rX L (i + 1));have:=lS L (i + 1) e he;unfold slK at this ⊢
  show 4611686018427387905 + (i:Int) < e.1
  omega
theorem nI {e:Ent} {k:Int} (h:e.1 < k) (v:ByteArray) (m:List Ent):bH k v (e :: m) = e :: bH k v m:=by
 unfold bH;have h2:¬ k < e.1:=by omega
 simp [List.filter_cons,h,h2]
theorem uX {k:Int} (u v:ByteArray) {m:List Ent} (h:∀ e ∈ m,k < e.1):bH k v ((k,u) :: m) = (k,v) :: m:=by
 unfold bH;have h1:m.filter (fun e=>decide (e.1 < k)) = []:=List.filter_eq_nil_iff.2 fun e he=>by have:=h e he; simp; omega
 have h2:m.filter (fun e=>decide (k < e.1)) = m:=List.filter_eq_self.2 fun e he=>by simpa using h e he
 simp [List.filter_cons,h1,h2]
theorem sP:∀ (L:List (Int × Int × Int)) (i j:Nat) (x:Int × Int × Int),j < L.length → bH (slK (i + j)) (slV x) (slE i L) = slE i (L.set j x)
 | [],i,j,x,h=>by simp at h
 | y :: L,i,0,x,h=>by
  rw [slE,List.set_cons_zero,slE]
  exact uX _ _ fun e he=>by
   have:=lS L (i + 1) e he;unfold slK at this ⊢;omega
 | y :: L,i,j + 1,x,h=>by
  rw [slE,List.set_cons_succ,slE,nI (by show slK i < slK (i + (j + 1)); unfold slK; omega),show i + (j + 1) = i + 1 + j by omega,sP L (i + 1) j x (by simpa using h)]
theorem uW:∀ (L:List (Int × Int × Int)) (i:Nat) (x:Int × Int × Int),bH (slK (i + L.length)) (slV x) (slE i L) = slE i (L ++ [x])
 | [],i,x=>by simp [slE,bH]
 | y :: L,i,x=>by
  rw [slE,List.cons_append,slE,nI (by show slK i < slK (i + (L.length + 1)); unfold slK; omega),List.length_cons,show i + (L.length + 1) = i + 1 + L.length by omega,uW L (i + 1) x]
def SlL (L:List (Int × Int × Int)):Prop:=L.length ≤ 200 ∧ ∀ (j:Nat) (x:Int × Int × Int),L[j]? = some x → bP ((j:Int) + 1) x.1 x.2.1 = true ∧ 0 ≤ x.2.2 ∧ x.2.2 ≤ 18446744073709551615
theorem mV {L:List (Int × Int × Int)} (h:L.length ≤ 200) {e:Ent} (he:e ∈ slE 0 L):∃ j,∃ x,j < 200 ∧ L[j]? = some x ∧ e = (slK j,slV x):=by
 obtain ⟨j,hj⟩:=List.mem_iff_getElem?.1 he;rw [mW] at hj
 cases hx:L[j]? with
 | none=>rw [hx] at hj; cases hj
 | some x =>
  rw [hx] at hj;have hl:=(List.getElem?_eq_some_iff.1 hx).1;injection hj with hj;exact ⟨j,x,by omega,hx,by rw [← hj,Nat.zero_add]⟩
theorem mL {α:Type} (p:α → Bool):∀ (l:List α),(∀ x ∈ l,p x = true) → l.takeWhile p = l
 | [],_=>rfl
 | a :: l,h=>by rw [List.takeWhile_cons,if_pos (h a (by simp)),mL p l fun x hx=>h x (by simp [hx])]
theorem DF {L:List (Int × Int × Int)} (h:L.length ≤ 200):fY (slE 0 L) = slE 0 L:=by
 unfold fY
 rw [uI fun e he=>by
  have:=lS L 0 e he;unfold slK at this;omega]
 refine mL _ _ fun e he=>?_
 obtain ⟨j,x,hj,_,rfl⟩:=mV h he;exact (mU hj).2
theorem aBB {L:List (Int × Int × Int)} (h:SlL L):SlE (slE 0 L) (slE 0 L):=by
 obtain ⟨h1,h2⟩:=h;refine ⟨rX L 0,fun e he=>?_,DF h1,fun e he=>?_,fun i e he=>?_,by rw [iU]; exact h1,by rw [iU]; omega⟩
 ·obtain ⟨j,x,hj,_,rfl⟩:=mV h1 he
  show 0 ≤ slK j ∧ slK j ≤ _
  unfold slK;omega
 ·obtain ⟨j,x,hj,hx,rfl⟩:=mV h1 he
  obtain ⟨g1,g2,g3⟩:=h2 j x hx
  show mT (spB (slK j)) (slV x) = true
  rw [(mU hj).1];exact JL g1 g2 g3
 ·rw [mW] at he
  cases hx:L[i]? with
  | none=>rw [hx] at he; cases he
  | some x =>
   rw [hx] at he;have hl:=(List.getElem?_eq_some_iff.1 hx).1;injection he with he;rw [← he,Nat.zero_add];exact (mU (by omega)).1
theorem rV {L:List (Int × Int × Int)} (h:SlL L) {i:Nat} {x:Int × Int × Int} (hx:L[i]? = some x):fA (slE 0 L) i = ((i:Int) + 1,x.1,x.2.1,x.2.2):=by
 obtain ⟨g1,g2,g3⟩:=h.2 i x hx;obtain ⟨e1,e2,e3⟩:=tJ g1 g2 g3;have hl:=(List.getElem?_eq_some_iff.1 hx).1;unfold fA;rw [mW,hx]
 show fld (slK (0 + i),slV x) = _
 unfold fld
 show (spB (slK (0 + i)),tsC (bS x.1 x.2.1 x.2.2),tsE (bS x.1 x.2.1 x.2.2),tsN (bS x.1 x.2.1 x.2.2)) = _
 rw [Nat.zero_add,(mU (by have:=h.1; omega)).1,e1,e2,e3]
theorem rW {L:List (Int × Int × Int)} {i:Nat} (hi:L.length ≤ i):fA (slE 0 L) i = (((i + 1:Nat):Int),0,1,0):=by
 unfold fA;rw [mW,List.getElem?_eq_none_iff.2 hi]
 rfl
theorem BL {L:List (Int × Int × Int)} (h:SlL L) (nc:Int) (hb:∀ x ∈ L,gI x.1 x.2.2 nc = false):∀ e ∈ slE 0 L,oY nc e = false:=fun e he=>by
 obtain ⟨j,x,hj,hx,rfl⟩:=mV h.1 he;obtain ⟨g1,g2,g3⟩:=h.2 j x hx;obtain ⟨e1,e2,e3⟩:=tJ g1 g2 g3
 show gI (tsC (bS x.1 x.2.1 x.2.2)) (tsN (bS x.1 x.2.1 x.2.2)) nc = false
 rw [e1,e3];exact hb x (List.mem_of_getElem? hx)
theorem SlL.set {L:List (Int × Int × Int)} (h:SlL L) {j:Nat} {x:Int × Int × Int} (hj:j < L.length) (hx:bP ((j:Int) + 1) x.1 x.2.1 = true ∧ 0 ≤ x.2.2 ∧ x.2.2 ≤ 18446744073709551615):SlL (L.set j x):=by
 refine ⟨by rw [List.length_set]; exact h.1,fun i y hy=>?_⟩;rw [List.getElem?_set] at hy
 by_cases hji:j = i
 ·subst hji
  rw [if_pos rfl,if_pos hj] at hy;injection hy with hy;rw [← hy]; exact hx
 ·rw [if_neg hji] at hy
  exact h.2 i y hy
theorem SlL.snoc {L:List (Int × Int × Int)} (h:SlL L) {x:Int × Int × Int} (hl:L.length < 200) (hx:bP ((L.length:Int) + 1) x.1 x.2.1 = true ∧ 0 ≤ x.2.2 ∧ x.2.2 ≤ 18446744073709551615):SlL (L ++ [x]):=by
 refine ⟨by simp; omega,fun i y hy=>?_⟩
 by_cases hi:i < L.length
 ·rw [List.getElem?_append_left hi] at hy
  exact h.2 i y hy
 ·have hi2:i = L.length:=by
   have:=(List.getElem?_eq_some_iff.1 hy).1;simp at this;omega
  subst hi2;have hy2:x = y:=by simpa using hy
  rw [← hy2]; exact hx
def fW (cap:Int) (x:Int × Int × Int):Bool:=fU x.1 && (x.1 == cap)
def eT (cap:Int) (x:Int × Int × Int):Int × Int × Int:=if fW cap x = true then (0,x.2.1 + 1,0) else x
def OkX (i:Nat) (x:Int × Int × Int):Prop:=bP ((i:Int) + 1) x.1 x.2.1 = true ∧ 0 ≤ x.2.2 ∧ x.2.2 ≤ 18446744073709551615
theorem mD {cap:Int} {i j:Nat} {x:Int × Int × Int} (h:OkX i x):lH cap (slK j,slV x) = fW cap x ∧ tsE (slV x) = x.2.1:=by
 obtain ⟨g1,g2,g3⟩:=h;obtain ⟨e1,e2,e3⟩:=tJ g1 g2 g3;refine ⟨?_,e2⟩
 show (fU (tsC (bS x.1 x.2.1 x.2.2)) && (tsC (bS x.1 x.2.1 x.2.2) == cap)) = _
 rw [e1]
 rfl
theorem lI:∀ (ps:List (Int × Int)) (e:Ent) (m:List Ent),(∀ p ∈ ps,e.1 < dJ 4 0 p.1) → dG ps (e :: m) = e :: dG ps m
 | [],e,m,_=>rfl
 | p :: ps,e,m,h=>by
  show dG ps (bH (dJ 4 0 p.1) (bS 0 p.2 0) (e :: m)) = e :: dG ps (bH (dJ 4 0 p.1) (bS 0 p.2 0) m)
  rw [nI (h p (by simp)),lI ps e _ fun q hq=>h q (by simp [hq])]
theorem qM (cap:Int) (e:Ent) (Ys:List Ent):bI cap (e :: Ys) = if lH cap e = true then (spB e.1,tsE e.2 + 1) :: bI cap Ys else bI cap Ys:=by
 unfold bI
 cases h:lH cap e <;> simp [List.filter_cons,h]
theorem uY {cap:Int} {i:Nat} {L:List (Int × Int × Int)} (hl:i + L.length ≤ 200) (hok:∀ (j:Nat) (x:Int × Int × Int),L[j]? = some x → OkX (i + j) x) {p:Int × Int} (hp:p ∈ bI cap (slE i L)) :
  ∃ j,∃ x,L[j]? = some x ∧ fW cap x = true ∧ p = (((i + j + 1:Nat):Int),x.2.1 + 1) ∧ i + j < 200:=by
 unfold bI at hp;obtain ⟨e,he,rfl⟩:=List.mem_map.1 hp;obtain ⟨he,hg⟩:=List.mem_filter.1 he;obtain ⟨j,hj⟩:=List.mem_iff_getElem?.1 he;rw [mW] at hj
 cases hx:L[j]? with
 | none=>rw [hx] at hj; cases hj
 | some x =>
  rw [hx] at hj;have hlt:=(List.getElem?_eq_some_iff.1 hx).1;injection hj with hj;subst hj;obtain ⟨g1,g2⟩:=mD (cap:=cap) (j:=i + j) (hok j x hx);rw [g1] at hg;refine ⟨j,x,hx,hg,?_,by omega⟩
  show (spB (slK (i + j)),tsE (slV x) + 1) = _
  rw [g2,(mU (by omega)).1]
  rfl
theorem uZ (cap:Int):∀ (L:List (Int × Int × Int)) (i:Nat),i + L.length ≤ 200 → (∀ (j:Nat) (x:Int × Int × Int),L[j]? = some x → OkX (i + j) x) → dG (bI cap (slE i L)) (slE i L) = slE i (L.map (eT cap))
 | [],i,_,_=>rfl
 | x :: L,i,hl,hok=>by
  have h0:OkX i x:=hok 0 x rfl;have hl' : i + 1 + L.length ≤ 200:=by simp at hl; omega
  have hok' : ∀ (j:Nat) (y:Int × Int × Int),L[j]? = some y → OkX (i + 1 + j) y:=fun j y hy=>by
   have:=hok (j + 1) y (by simpa using hy);rwa [show i + (j + 1) = i + 1 + j by omega] at this
  have IH:=uZ cap L (i + 1) hl' hok';obtain ⟨g1,g2⟩:=mD (cap:=cap) (j:=i) h0
  have hgt:∀ p ∈ bI cap (slE (i + 1) L),slK i < dJ 4 0 p.1:=fun p hp=>by
   obtain ⟨j,y,hy,_,rfl,hj⟩:=uY hl' hok' hp
   show slK i < dJ 4 0 (((i + 1 + j + 1:Nat):Int))
   rw [kD hj];unfold slK;omega
  rw [slE,qM,g1,List.map_cons,slE]
  cases hg:fW cap x
  ·rw [if_neg (by decide),lI _ _ _ hgt,IH]
   unfold eT;rw [hg]
   rfl
  ·rw [if_pos rfl]
   show dG (bI cap (slE (i + 1) L)) (bH (dJ 4 0 (spB (slK i))) (bS 0 (tsE (slV x) + 1) 0) ((slK i,slV x) :: slE (i + 1) L)) = _
   have hk:dJ 4 0 (spB (slK i)) = slK i:=by
    rw [(mU (by simp at hl; omega)).1];exact kD (by simp at hl; omega)
   rw [hk,uX _ _ fun e he=>by
    have:=lS L (i + 1) e he;unfold slK at this ⊢;omega,lI _ _ _ hgt,IH,g2]
   have e2:eT cap x = (0,x.2.1 + 1,0):=by unfold eT; rw [if_pos hg]
   rw [e2]
   rfl
theorem vA:∀ (ps:List (Int × Int)) (L:List (Int × Int × Int)),(∀ p ∈ ps,∃ j,j < L.length ∧ j < 200 ∧ p.1 = ((j + 1:Nat):Int)) → (dG ps (slE 0 L)).length = L.length
 | [],L,_=>iU L 0
 | p :: ps,L,h=>by
  obtain ⟨j,h1,h2,h3⟩:=h p (by simp)
  show (dG ps (bH (dJ 4 0 p.1) (bS 0 p.2 0) (slE 0 L))).length = _
  have:=sP L 0 j (0,p.2,0) h1;rw [Nat.zero_add] at this
  rw [h3,kD h2,show bS 0 p.2 0 = slV (0,p.2,0) from rfl,this,vA ps _ fun q hq=>by
   obtain ⟨k,k1,k2,k3⟩:=h q (by simp [hq]);exact ⟨k,by rw [List.length_set]; exact k1,k2,k3⟩,List.length_set]
theorem SlL.okx {L:List (Int × Int × Int)} (h:SlL L):∀ (j:Nat) (x:Int × Int × Int),L[j]? = some x → OkX (0 + j) x:=fun j x hx=>by
 rw [Nat.zero_add];exact h.2 j x hx
theorem oQ (cap:Int):∀ (L:List (Int × Int × Int)) (i:Nat),(∀ (j:Nat) (x:Int × Int × Int),L[j]? = some x → OkX (i + j) x) → (bI cap (slE i L)).length = (L.filter (fW cap)).length
 | [],i,_=>rfl
 | x :: L,i,hok=>by
  have h0:OkX i x:=hok 0 x rfl
  have IH:=oQ cap L (i + 1) fun j y hy=>by
   have:=hok (j + 1) y (by simpa using hy);rwa [show i + (j + 1) = i + 1 + j by omega] at this
  rw [slE,qM,(mD (cap:=cap) (j:=i) h0).1]
  cases hg:fW cap x
  ·rw [if_neg (by decide),IH,List.filter_cons,if_neg (by rw [hg]; decide)]
  ·rw [if_pos rfl,List.length_cons,IH,List.filter_cons,if_pos hg,List.length_cons]
theorem SlL.free {L:List (Int × Int × Int)} (h:SlL L) (cap:Int):SlL (L.map (eT cap)):=by
 refine ⟨by rw [List.length_map]; exact h.1,fun j y hy=>?_⟩;rw [List.getElem?_map] at hy
 cases hx:L[j]? with
 | none=>rw [hx] at hy; cases hy
 | some x =>
  rw [hx] at hy;obtain ⟨g1,g2,g3⟩:=h.2 j x hx;have hy2:eT cap x = y:=by simpa using hy
  subst hy2;unfold eT
  split
  ·rename_i hg
   refine ⟨?_,by show (0:Int) ≤ 0; decide,by show (0:Int) ≤ _; decide⟩
   have h15:x.2.1 ≠ 16:=fun e=>by
    unfold bP at g1;unfold fW fU at hg;simp only [Bool.and_eq_true,Bool.or_eq_true] at g1 hg
    rcases g1.2 with h9 | h9
    ·rw [e] at h9; exact absurd h9 (by decide)
    ·have:=hg.1; simp at this h9; exact this h9
   have hin:=jN g1;unfold bP;simp only [Bool.and_eq_true,iF];exact ⟨⟨⟨by omega,by decide⟩,by omega⟩,by simp⟩
  ·exact ⟨g1,g2,g3⟩
theorem nD {L:List (Int × Int × Int)} (h:SlL L) {i:Nat} {x:Int × Int × Int} (hx:L[i]? = some x):dP (slE 0 L) i = gX x.1 x.2.1:=by
 unfold dP;rw [rV h hx]
theorem DZ {L:List (Int × Int × Int)} {i:Nat} (hi:L.length ≤ i):dP (slE 0 L) i = true:=by
 unfold dP;rw [rW hi]
 rfl
structure MtE (M:List Ent):Prop where
 s:kR M
 k:∀ e ∈ M,5764607523034234880 ≤ e.1 ∧ e.1 ≤ 18446744073709551615
 n:M.length ≤ 50
theorem AI {k:Int} {v:ByteArray} {A M:List Ent} (h:∀ e ∈ M,k < e.1):bH k v (A ++ M) = bH k v A ++ M:=by
 unfold bH;have h1:M.filter (fun e=>decide (e.1 < k)) = []:=List.filter_eq_nil_iff.2 fun e he=>by have:=h e he; simp; omega
 have h2:M.filter (fun e=>decide (k < e.1)) = M:=List.filter_eq_self.2 fun e he=>by simpa using h e he
 rw [List.filter_append,List.filter_append,h1,h2,List.append_nil];simp
theorem pO {k:Int} {v:ByteArray} {A M:List Ent} (h:∀ e ∈ A,e.1 < k):bH k v (A ++ M) = A ++ bH k v M:=by
 unfold bH;have h1:A.filter (fun e=>decide (k < e.1)) = []:=List.filter_eq_nil_iff.2 fun e he=>by have:=h e he; simp; omega
 have h2:A.filter (fun e=>decide (e.1 < k)) = A:=List.filter_eq_self.2 fun e he=>by simpa using h e he
 rw [List.filter_append,List.filter_append,h1,h2];simp
theorem pQ {k:Int} {A M:List Ent} (h:∀ e ∈ A,e.1 < k):mI k (A ++ M) = mI k M:=by
 unfold mI;rw [List.find?_append,List.find?_eq_none.2 (fun e he=>by have:=h e he; simp; omega)]
 rfl
theorem yN {L:List (Int × Int × Int)} (h:L.length ≤ 200):∀ e ∈ slE 0 L,e.1 ≤ 4611686018427388104:=fun e he=>by
 obtain ⟨j,x,hj,_,rfl⟩:=mV h he
 show slK j ≤ _
 unfold slK;omega
theorem yM {L:List (Int × Int × Int)} {M:List Ent} (h:SlL L) (hM:MtE M):kR (slE 0 L ++ M) :=
 List.pairwise_append.2 ⟨rX L 0,hM.s,fun a ha b hb=>by
  have:=yN h.1 a ha;have:=(hM.k b hb).1;omega⟩
theorem mK {α:Type} (p:α → Bool):∀ (l m:List α),(∀ x ∈ l,p x = true) → (∀ x ∈ m,p x = false) → (l ++ m).takeWhile p = l
 | [],[],_,_=>rfl
 | [],b :: m,_,h=>by rw [List.nil_append,List.takeWhile_cons,if_neg (by rw [h b (by simp)]; decide)]
 | a :: l,m,h,g=>by rw [List.cons_append,List.takeWhile_cons,if_pos (h a (by simp)),mK p l m (fun x hx=>h x (by simp [hx])) g]
theorem QP {L:List (Int × Int × Int)} {M:List Ent} (h:L.length ≤ 200) (hM:MtE M):fY (slE 0 L ++ M) = slE 0 L:=by
 unfold fY
 rw [uI fun e he=>by
  rcases List.mem_append.1 he with he | he
  ·have:=lS L 0 e he
   unfold slK at this;omega
  ·have:=(hM.k e he).1
   omega]
 refine mK _ _ _ (fun e he=>?_) (fun e he=>?_)
 ·obtain ⟨j,x,hj,_,rfl⟩:=mV h he
  exact (mU hj).2
 ·have h1:=(hM.k e he).1
  unfold jU spK;have:(e.1 / 1152921504606846976 == 4) = false:=by simp; omega
  rw [this,Bool.false_and]
theorem DH {L:List (Int × Int × Int)} {M:List Ent} (h:SlL L) (hM:MtE M):SlE (slE 0 L ++ M) (slE 0 L):=by
 have q:=aBB h;refine ⟨yM h hM,fun e he=>?_,QP h.1 hM,q.ok,q.id,q.m,by rw [List.length_append,iU]; have:=h.1; have:=hM.n; omega⟩
 rcases List.mem_append.1 he with he | he
 ·exact q.k e he
 ·have:=hM.k e he
  omega
theorem IJ {L:List (Int × Int × Int)} {M:List Ent} (hM:MtE M) {i:Nat} (hi:i < 200) (v:ByteArray):bH (slK i) v (slE 0 L ++ M) = bH (slK i) v (slE 0 L) ++ M:=AI fun e he=>by
 have:=(hM.k e he).1;unfold slK;omega
theorem MR {w0 w:World} {R:List Nat} {t d s:Nat} {L:List (Int × Int × Int)} {M:List Ent} {ca nc:Int} (h:TxS w0 R w t d s 640 (slE 0 L ++ M)) (hL:SlL L) (hM:MtE M) (hca:1 ≤ ca ∧ ca ≤ 16777215) (hnc:0 ≤ nc ∧ nc ≤ 18446744073709551615) (hbu:∀ x ∈ L,gI x.1 x.2.2 nc = false)
  {i:Nat} {x:Int × Int × Int} (hx:L[i]? = some x) (hop:gX x.1 x.2.1 = true) (hlo:∀ (j:Nat) (y:Int × Int × Int),j < i → L[j]? = some y → gX y.1 y.2.1 = false) :
  Calls Tryz.prog 22 #[.pointer (some ⟨t,0,none⟩),.int .i64 ca,.int .u64 nc] w fun e w' => e = .returned (.tuple #[.agg #[.int .i64 ((i + 1:Nat):Int),.int .i64 ca,.int .i64 x.2.1,.int .u64 nc],.int .i64 0]) ∧ TxS w0 R w' t d s 640 (slE 0 (L.set i (ca,x.2.1,nc)) ++ M) ∧ KeptT R t w w' ∧ SlL (L.set i (ca,x.2.1,nc)):=by
 have hi:=(List.getElem?_eq_some_iff.1 hx).1;have h200:=hL.1
 have h0:x.1 = 0 ∧ x.2.1 ≤ 15:=by
  unfold gX at hop
  simpa using hop
 have hin:=jN (hL.2 i x hx).1
 have hset:SlL (L.set i (ca,x.2.1,nc)):=hL.set hi ⟨by
  unfold bP;simp only [Bool.and_eq_true,iF];refine ⟨⟨⟨by omega,by omega⟩,by omega⟩,?_⟩;have:(x.2.1 != 16) = true:=by simp; omega
  rw [this]; rfl,hnc.1,hnc.2⟩
 have hs:fA (slE 0 L) i = (((i + 1:Nat):Int),0,x.2.1,x.2.2):=by
  rw [rV hL hx,h0.1]
  rfl
 have e:=sP L 0 i (ca,x.2.1,nc) hi;rw [Nat.zero_add] at e;refine (yG h (DH hL hM) hca hnc (BL hL nc hbu) (i:=i) (by omega) (fun j hj=>?_) (by rw [nD hL hx]; exact hop) hs rfl ⟨by omega,h0.2⟩).mono ?_
 ·obtain ⟨y,hy⟩:∃ y,L[j]? = some y:=⟨_,List.getElem?_eq_getElem (by omega)⟩
  rw [nD hL hy];exact hlo j y hj hy
 ·rintro e' w' ⟨rfl,h1,h2⟩
  rw [kD (by omega),show bS ca x.2.1 nc = slV (ca,x.2.1,nc) from rfl,IJ hM (by omega),e] at h1;exact ⟨rfl,h1,h2,hset⟩
theorem uP {w0 w:World} {R:List Nat} {t d s:Nat} {L:List (Int × Int × Int)} {M:List Ent} {ca nc:Int} (h:TxS w0 R w t d s 640 (slE 0 L ++ M)) (hL:SlL L) (hM:MtE M) (hca:1 ≤ ca ∧ ca ≤ 16777215) (hnc:0 ≤ nc ∧ nc ≤ 18446744073709551615) (hbu:∀ x ∈ L,gI x.1 x.2.2 nc = false)
  (hl:L.length < 200) (hlo:∀ y ∈ L,gX y.1 y.2.1 = false) :
  Calls Tryz.prog 22 #[.pointer (some ⟨t,0,none⟩),.int .i64 ca,.int .u64 nc] w fun e w' => e = .returned (.tuple #[.agg #[.int .i64 ((L.length + 1:Nat):Int),.int .i64 ca,.int .i64 1,.int .u64 nc],.int .i64 0]) ∧ TxS w0 R w' t d s 640 (slE 0 (L ++ [(ca,1,nc)]) ++ M) ∧ KeptT R t w w' ∧ SlL (L ++ [(ca,1,nc)]):=by
 have hset:SlL (L ++ [(ca,1,nc)]):=hL.snoc hl ⟨by
  unfold bP;simp only [Bool.and_eq_true,iF];exact ⟨⟨⟨by omega,by omega⟩,by decide⟩,by simp⟩,hnc.1,hnc.2⟩
 have e:=uW L 0 (ca,1,nc);rw [Nat.zero_add] at e;refine (yG h (DH hL hM) hca hnc (BL hL nc hbu) (i:=L.length) hl (fun j hj=>?_) (DZ (Nat.le_refl _)) (rW (Nat.le_refl _)) rfl ⟨by decide,by decide⟩).mono ?_
 ·obtain ⟨y,hy⟩:∃ y,L[j]? = some y:=⟨_,List.getElem?_eq_getElem hj⟩
  rw [nD hL hy];exact hlo y (List.mem_of_getElem? hy)
 ·rintro e' w' ⟨rfl,h1,h2⟩
  rw [kD hl,show bS ca 1 nc = slV (ca,1,nc) from rfl,IJ hM hl,e] at h1;exact ⟨rfl,h1,h2,hset⟩
theorem aC9 {w0 w:World} {R:List Nat} {t d s:Nat} {L:List (Int × Int × Int)} {M:List Ent} (h:TxS w0 R w t d s 640 (slE 0 L ++ M)) (hL:SlL L) (hM:MtE M) {i:Nat} {x:Int × Int × Int} (hx:L[i]? = some x) :
  Calls Tryz.prog 24 #[.pointer (some ⟨t,0,none⟩),.int .i64 ((i + 1:Nat):Int)] w fun e w' => e = .returned (.tuple #[.agg #[.int .i64 ((i + 1:Nat):Int),.int .i64 x.1,.int .i64 x.2.1,.int .u64 x.2.2],.int .i64 0]) ∧ TxS w0 R w' t d s 640 (slE 0 L ++ M) ∧ KeptT R t w w' := by
 have hi:=(List.getElem?_eq_some_iff.1 hx).1;have h200:=hL.1;have h50:=hM.n;obtain ⟨g1,g2,g3⟩:=hL.2 i x hx;obtain ⟨e1,e2,e3⟩:=tJ g1 g2 g3;have hg:mI (slK i) (slE 0 L ++ M) = some (slV x):=(UN (yM hL hM)).1 (List.mem_append_left _ (List.mem_of_getElem? (i:=i) (by rw [mW,hx,Nat.zero_add]; rfl)));exact RK h (by rw [List.length_append,iU]; omega) ⟨by omega,by omega⟩ (kD (by omega)) (by unfold slK; omega) (by unfold iG; rw [hg]; rfl) (by unfold gW; rw [hg]; rfl) (JL g1 g2 g3) e1 e2 e3
theorem wN {M:List Ent} (hM:MtE M):∀ (ps:List (Int × Int)) (A:List Ent),(∀ p ∈ ps,∃ j,j < 200 ∧ p.1 = ((j + 1:Nat):Int)) → dG ps (A ++ M) = dG ps A ++ M
 | [],A,_=>rfl
 | p :: ps,A,h=>by
  obtain ⟨j,h1,h2⟩:=h p (by simp)
  show dG ps (bH (dJ 4 0 p.1) (bS 0 p.2 0) (A ++ M)) = dG ps (bH (dJ 4 0 p.1) (bS 0 p.2 0) A) ++ M
  rw [h2,kD h1,AI (fun e he=>by have:=(hM.k e he).1; unfold slK; omega),wN hM ps _ fun q hq=>h q (by simp [hq])]
theorem ZE {w0 w:World} {R:List Nat} {t d s:Nat} {L:List (Int × Int × Int)} {M:List Ent} (cap:Int) (h:TxS w0 R w t d s 640 (slE 0 L ++ M)) (hL:SlL L) (hM:MtE M) :
  Calls Tryz.prog 23 #[.pointer (some ⟨t,0,none⟩),.int .i64 cap] w fun e w' => e = .returned (.tuple #[.int .i64 (L.filter (fW cap)).length,.int .i64 0]) ∧ TxS w0 R w' t d s 640 (slE 0 (L.map (eT cap)) ++ M) ∧ KeptT R t w w' := by
 have hl:0 + L.length ≤ 200:=by have:=hL.1; omega
 have hf:=hL.free cap
 have hsub:∀ p ∈ bI cap (slE 0 L),∃ j,j < L.length ∧ j < 200 ∧ p.1 = ((j + 1:Nat):Int) ∧ bP p.1 0 p.2 = true:=fun p hp=>by
  obtain ⟨j,x,hx,hg,rfl,hj⟩:=uY hl hL.okx hp;have h1:=(hf.2 j (eT cap x) (by rw [List.getElem?_map,hx]; rfl)).1;have e2:eT cap x = (0,x.2.1 + 1,0):=by unfold eT; rw [if_pos hg]
  rw [e2] at h1;refine ⟨j,(List.getElem?_eq_some_iff.1 hx).1,by omega,by rw [Nat.zero_add],?_⟩;rw [Nat.zero_add];exact h1
 have:=QV (cap:=cap) h (DH hL hM) (fun e he=>by
  obtain ⟨j,x,hj,hx,rfl⟩:=mV hL.1 he;have hin:=jN (hL.2 j x hx).1;have e2:=(mD (cap:=cap) (j:=j) (hL.2 j x hx)).2
  show IntKind.i64.wrap (tsE (slV x) + 1) = tsE (slV x) + 1
  rw [e2];exact IntWalk.i64_in _ (by omega)) (fun p hp=>(hsub p hp).choose_spec.2.2.2) (fun k=>by
  rw [wN hM _ _ (fun p hp=>by
   obtain ⟨j,h1,h2,h3,_⟩:=hsub p (List.mem_of_mem_take hp);exact ⟨j,h2,h3⟩),List.length_append,vA _ _ fun p hp=>by
   obtain ⟨j,h1,h2,h3,_⟩:=hsub p (List.mem_of_mem_take hp);exact ⟨j,h1,h2,h3⟩]
  have:=hL.1;have:=hM.n;omega)
 rw [wN hM _ _ (fun p hp=>by
  obtain ⟨j,h1,h2,h3,_⟩:=hsub p hp;exact ⟨j,h2,h3⟩),uZ cap L 0 hl hL.okx,oQ cap L 0 hL.okx] at this
 exact this
open Go.RowKit

theorem iJ (a:Nat) (ha:a < 4294967296):(BitVec.ofInt 32 (a:Int)).toNat = a:=by
 rw [BitVec.ofInt_natCast,BitVec.toNat_ofNat]; exact Nat.mod_eq_of_lt (by omega)
theorem cI (a b:Nat) (ha:a < 4294967296) (hb:b < 4294967296):bits .or .u32 (a:Int) (b:Int) = ((a ||| b:Nat):Int):=by
 have hx:a ||| b < 2 ^ 32:=Nat.or_lt_two_pow (by omega) (by omega)
 show IntKind.u32.wrap ((BitVec.ofInt 32 (a:Int) ||| BitVec.ofInt 32 (b:Int)).toNat:Int) = _
 rw [BitVec.toNat_or,iJ a ha,iJ b hb,IntKind.wrap_u32];omega
theorem dF (a b:Nat) (ha:a < 4294967296) (hb:b < 4294967296):bits .xor .u32 (a:Int) (b:Int) = ((a ^^^ b:Nat):Int):=by
 have hx:a ^^^ b < 2 ^ 32:=Nat.xor_lt_two_pow (by omega) (by omega)
 show IntKind.u32.wrap ((BitVec.ofInt 32 (a:Int) ^^^ BitVec.ofInt 32 (b:Int)).toNat:Int) = _
 rw [BitVec.toNat_xor,iJ a ha,iJ b hb,IntKind.wrap_u32];omega
theorem gP (a b:Nat) (ha:a < 4294967296) (hb:b < 4294967296):bits .and .u32 (a:Int) (b:Int) = ((a &&& b:Nat):Int):=by
 have hx:a &&& b < 2 ^ 32:=Nat.and_lt_two_pow _ (by omega)
 show IntKind.u32.wrap ((BitVec.ofInt 32 (a:Int) &&& BitVec.ofInt 32 (b:Int)).toNat:Int) = _
 rw [BitVec.toNat_and,iJ a ha,iJ b hb,IntKind.wrap_u32];omega
namespace S
def rot (x n:Nat):Nat:=(x * 2 ^ (32 - n) % 4294967296) ||| (x / 2 ^ n)
theorem rot_lt (x n:Nat) (hx:x < 4294967296):rot x n < 4294967296:=by
 unfold rot;exact Nat.or_lt_two_pow (n:=32) (Nat.mod_lt _ (by decide)) (Nat.lt_of_le_of_lt (Nat.div_le_self _ _) hx)
def x3 (a b c:Nat):Nat:=a ^^^ b ^^^ c
theorem xor_lt {a b:Nat} (ha:a < 4294967296) (hb:b < 4294967296):a ^^^ b < 4294967296:=Nat.xor_lt_two_pow (n:=32) ha hb
theorem and_lt {a b:Nat} (ha:a < 4294967296):a &&& b < 4294967296:=Nat.lt_of_le_of_lt Nat.and_le_left ha
def s0 (x:Nat):Nat:=x3 (rot x 7) (rot x 18) (x / 8)
def s1 (x:Nat):Nat:=x3 (rot x 17) (rot x 19) (x / 1024)
def S0 (x:Nat):Nat:=x3 (rot x 2) (rot x 13) (rot x 22)
def S1 (x:Nat):Nat:=x3 (rot x 6) (rot x 11) (rot x 25)
def ch (e f g:Nat):Nat:=(e &&& f) ^^^ ((4294967295 ^^^ e) &&& g)
def maj (a b c:Nat):Nat:=x3 (a &&& b) (a &&& c) (b &&& c)
def add (a b:Nat):Nat:=(a + b) % 4294967296
theorem iO (a b:Nat):add a b < 4294967296:=Nat.mod_lt _ (by decide)
def word (b:List UInt8) (i:Nat):Nat:=M.val ((b.drop (4 * i)).take 4)
theorem WB (b:List UInt8) (i:Nat):word b i < 4294967296:=by
 have h1:=M.val_lt ((b.drop (4 * i)).take 4);have h2:256 ^ ((b.drop (4 * i)).take 4).length ≤ 256 ^ 4:=Nat.pow_le_pow_right (by decide) (by simp; omega);unfold word;have h3:(256:Nat) ^ 4 = 4294967296:=by decide
 omega
def wnext (w:List Nat) (i:Nat):Nat:=add (add (add (s1 (w.getD (i - 2) 0)) (w.getD (i - 7) 0)) (s0 (w.getD (i - 15) 0))) (w.getD (i - 16) 0)
def wds (b:List UInt8):Nat → List Nat
 | 0=>[]
 | n + 1=>wds b n ++ [if n < 16 then word b n else wnext (wds b n) n]
theorem wds_length (b:List UInt8) (n:Nat):(wds b n).length = n:=by
 induction n with
 | zero=>rfl
 | succ n ih=>simp [wds,ih]
theorem wds_lt (b:List UInt8) (n:Nat):∀ x ∈ wds b n,x < 4294967296:=by
 induction n with
 | zero=>simp [wds]
 | succ n ih =>
  intro x hx;rw [wds] at hx
  rcases List.mem_append.1 hx with h | h
  ·exact ih x h
  ·simp only [List.mem_singleton] at h
   subst h
   split
   ·exact WB _ _
   ·exact iO _ _
structure St where
 a:Nat
 b:Nat
 c:Nat
 d:Nat
 e:Nat
 f:Nat
 g:Nat
 h:Nat
def St.ok (s:St):Prop:=s.a < 4294967296 ∧ s.b < 4294967296 ∧ s.c < 4294967296 ∧ s.d < 4294967296 ∧ s.e < 4294967296 ∧ s.f < 4294967296 ∧ s.g < 4294967296 ∧ s.h < 4294967296
def t1 (s:St) (k w:Nat):Nat:=add (add (add (add s.h (S1 s.e)) (ch s.e s.f s.g)) k) w
def t2 (s:St):Nat:=add (S0 s.a) (maj s.a s.b s.c)
def step (s:St) (k w:Nat):St:=⟨add (t1 s k w) (t2 s),s.a,s.b,s.c,add s.d (t1 s k w),s.e,s.f,s.g⟩
theorem WW (s:St) (k w:Nat) (h:s.ok):(step s k w).ok:=⟨iO _ _,h.1,h.2.1,h.2.2.1,iO _ _,h.2.2.2.2.1,h.2.2.2.2.2.1,h.2.2.2.2.2.2.1⟩
def steps (K W:List Nat) (s:St):Nat → St
 | 0=>s
 | n + 1=>step (steps K W s n) (K.getD n 0) (W.getD n 0)
theorem steps_ok (K W:List Nat) (s:St) (n:Nat) (h:s.ok):(steps K W s n).ok:=by
 induction n with
 | zero=>exact h
 | succ n ih=>exact WW _ _ _ ih
def plus (s t:St):St:=⟨add s.a t.a,add s.b t.b,add s.c t.c,add s.d t.d,add s.e t.e,add s.f t.f,add s.g t.g,add s.h t.h⟩
theorem plus_ok (s t:St):(plus s t).ok:=⟨iO _ _,iO _ _,iO _ _,iO _ _,iO _ _,iO _ _,iO _ _,iO _ _⟩
def KS:List Nat:=[
 0x428a2f98,0x71374491,0xb5c0fbcf,0xe9b5dba5,0x3956c25b,0x59f111f1,0x923f82a4,0xab1c5ed5,
 0xd807aa98,0x12835b01,0x243185be,0x550c7dc3,0x72be5d74,0x80deb1fe,0x9bdc06a7,0xc19bf174,
 0xe49b69c1,0xefbe4786,0x0fc19dc6,0x240ca1cc,0x2de92c6f,0x4a7484aa,0x5cb0a9dc,0x76f988da,
 0x983e5152,0xa831c66d,0xb00327c8,0xbf597fc7,0xc6e00bf3,0xd5a79147,0x06ca6351,0x14292967,
 0x27b70a85,0x2e1b2138,0x4d2c6dfc,0x53380d13,0x650a7354,0x766a0abb,0x81c2c92e,0x92722c85,
 0xa2bfe8a1,0xa81a664b,0xc24b8b70,0xc76c51a3,0xd192e819,0xd6990624,0xf40e3585,0x106aa070,
 0x19a4c116,0x1e376c08,0x2748774c,0x34b0bcb5,0x391c0cb3,0x4ed8aa4a,0x5b9cca4f,0x682e6ff3,
 0x748f82ee,0x78a5636f,0x84c87814,0x8cc70208,0x90befffa,0xa4506ceb,0xbef9a3f7,0xc67178f2]
def HS:St:=⟨0x6a09e667,0xbb67ae85,0x3c6ef372,0xa54ff53a,0x510e527f,0x9b05688c,0x1f83d9ab,0x5be0cd19⟩
def turn (s:St) (b:List UInt8):St:=plus (steps KS (wds b 64) s 64) s
def blocks (p:List UInt8):Nat → St
 | 0=>HS
 | n + 1=>turn (blocks p n) ((p.drop (64 * n)).take 64)
def zeros (n:Nat):Nat:=(119 - n % 64) % 64
def tail (left:List UInt8) (size:Nat):List UInt8:=left ++ [0x80] ++ List.replicate (zeros left.length) 0 ++ M.be 8 (size * 8)
def St.list (s:St):List Nat:=[s.a,s.b,s.c,s.d,s.e,s.f,s.g,s.h]
def digest (s:St):List UInt8:=(s.list.map (M.be 4)).flatten
def padded (s:List UInt8):List UInt8:=s.take (s.length / 64 * 64) ++ tail (s.drop (s.length / 64 * 64)) s.length
def sum (s:List UInt8):List UInt8:=digest (blocks (padded s) ((padded s).length / 64))
end S
def U (l:List Nat):Array Value:=(l.map fun n=>Value.int .u32 ((n:Nat):Int)).toArray
theorem bN (l:List Nat):(U l).size = l.length:=by simp [U]
theorem aDP (l:List Nat) (j:Nat) (h:j < l.length):(U l)[j]? = some (.int .u32 ((l[j]:Nat):Int)):=by simp [U,List.getElem?_eq_getElem h]
theorem mP (l:List Nat):(U l).all (·.oneCell') = true:=by
 rw [Array.all_eq_true];intro i hi;simp [U]
 rfl
def Arr (T:TypeId) (w:World) (g:Nat) (l:List Nat):Prop:=w.heap[g]? = some (.cells (U l) T (0,0))
theorem Arr.lt {T:TypeId} {w:World} {g:Nat} {l:List Nat} (h:Arr T w g l):g < w.heap.size:=(zl h)
theorem Arr.cell {T:TypeId} {w:World} {g:Nat} {l:List Nat} (h:Arr T w g l) (j:Nat) (hj:j < l.length):w.cell? ⟨g,j,none⟩ = some (.int .u32 ((l[j]:Nat):Int)):=by
 rw [cell_of_row w g j _ T _ h,aDP l j hj]
theorem Arr.free {T:TypeId} {w:World} {g:Nat} {l:List Nat} (h:Arr T w g l) (j:Nat):w.frozen? ⟨g,j,none⟩ = false:=frozen_of_row w g j _ T h
theorem Arr.drew {T:TypeId} {w:World} {g:Nat} {l:List Nat} (h:Arr T w g l):Arr T w.drew g l:=h
theorem Arr.drewN {T:TypeId} {w:World} {g:Nat} {l:List Nat} (h:Arr T w g l) (n:Nat):Arr T (w.drewN n) g l:=h
theorem aDO (l:List Nat) (j v:Nat):(U l).setIfInBounds j (.int .u32 (v:Int)) = U (l.set j v):=by
 apply Array.ext';simp [U,List.map_set]
theorem Arr.set {T:TypeId} {w:World} {g:Nat} {l:List Nat} (h:Arr T w g l) (j v:Nat):Arr T (w.setCell ⟨g,j,none⟩ (.int .u32 (v:Int))) g (l.set j v):=by
 unfold Arr;rw [hss w g j _ T _ h,aDO]
theorem Arr.other {T:TypeId} {w:World} {g:Nat} {l:List Nat} (h:Arr T w g l) (a:Addr) (v:Value) (hne:g ≠ a.block):Arr T (w.setCell a v) g l:=by
 unfold Arr;rw [heap_setCell_other w a g v hne];exact h
theorem Arr.alloc {T:TypeId} {w:World} {g:Nat} {l:List Nat} (h:Arr T w g l) (o:Obj):Arr T (w.alloc o) g l:=by
 unfold Arr;have hs:=h.lt;have:(w.alloc o).heap = w.heap.push o:=rfl;rw [this,Array.getElem?_push_lt hs];rw [← Array.getElem?_eq_getElem hs];exact h
theorem Arr.below {T:TypeId} {w w' : World} {g:Nat} {l:List Nat} (h:Arr T w g l) (hb:Below w.heap.size w w'):Arr T w' g l:=(hb.block g h.lt).trans h
theorem Arr.new {T:TypeId} (w:World) (l:List Nat):Arr T (w.alloc (.cells (U l) T)) w.heap.size l:=han w _
theorem Arr.row {T:TypeId} {w:World} {g:Nat} {l:List Nat} (h:Arr T w g l) (m:List Nat):Arr T (w.setRow g (U m)) g m:=setRow_heap w g _ _ T _ h
theorem aBI (x:Nat) (w:World) (hx:x < 4294967296) :
  Calls Tryz.prog 201 #[.int .u32 (x:Int),.int .i64 (-2)] w fun e w' => e = .returned (.int .u32 (S.rot x 2:Int)) ∧ w = w' := by
 have ho:=cI (x * 2 ^ (32 - 2) % 4294967296) (x / 2 ^ 2) (Nat.mod_lt _ (by decide)) (Nat.lt_of_le_of_lt (Nat.div_le_self _ _) hx);have hb:bits .and .u64 (IntKind.u64.wrap (-2)) 31 = 30:=by decide
 change _ = (S.rot x 2:Int) at ho;generalize S.rot x 2 = r at *;simp only [Int.natCast_emod,Int.natCast_mul,Int.natCast_ediv,Nat.reducePow,Nat.reduceSub,Int.cast_ofNat_Int] at ho;go_enter Tryz.func201,Tryz.ntmps201;go_wp2_with fail;go_ret;exact ⟨rfl,rfl⟩
theorem YG (x:Nat) (w:World) (hx:x < 4294967296) :
  Calls Tryz.prog 180 #[.int .u32 (x:Int),.int .i64 2] w fun e w' => e = .returned (.int .u32 (S.rot x 2:Int)) ∧ w = w' := by
 go_enter Tryz.func180,Tryz.ntmps180;go_wp2_with fail;refine (aBI _ _ hx).mono ?_;rintro e w1 ⟨rfl,rfl⟩;go_wp2_with fail;go_ret;exact ⟨rfl,rfl⟩
theorem aBH (x:Nat) (w:World) (hx:x < 4294967296) :
  Calls Tryz.prog 201 #[.int .u32 (x:Int),.int .i64 (-6)] w fun e w' => e = .returned (.int .u32 (S.rot x 6:Int)) ∧ w = w' := by
 have ho:=cI (x * 2 ^ (32 - 6) % 4294967296) (x / 2 ^ 6) (Nat.mod_lt _ (by decide)) (Nat.lt_of_le_of_lt (Nat.div_le_self _ _) hx);have hb:bits .and .u64 (IntKind.u64.wrap (-6)) 31 = 26:=by decide
 change _ = (S.rot x 6:Int) at ho;generalize S.rot x 6 = r at *;simp only [Int.natCast_emod,Int.natCast_mul,Int.natCast_ediv,Nat.reducePow,Nat.reduceSub,Int.cast_ofNat_Int] at ho;go_enter Tryz.func201,Tryz.ntmps201;go_wp2_with fail;go_ret;exact ⟨rfl,rfl⟩
theorem YF (x:Nat) (w:World) (hx:x < 4294967296) :
  Calls Tryz.prog 180 #[.int .u32 (x:Int),.int .i64 6] w fun e w' => e = .returned (.int .u32 (S.rot x 6:Int)) ∧ w = w' := by
 go_enter Tryz.func180,Tryz.ntmps180;go_wp2_with fail;refine (aBH _ _ hx).mono ?_;rintro e w1 ⟨rfl,rfl⟩;go_wp2_with fail;go_ret;exact ⟨rfl,rfl⟩
theorem aBG (x:Nat) (w:World) (hx:x < 4294967296) :
  Calls Tryz.prog 201 #[.int .u32 (x:Int),.int .i64 (-7)] w fun e w' => e = .returned (.int .u32 (S.rot x 7:Int)) ∧ w = w' := by
 have ho:=cI (x * 2 ^ (32 - 7) % 4294967296) (x / 2 ^ 7) (Nat.mod_lt _ (by decide)) (Nat.lt_of_le_of_lt (Nat.div_le_self _ _) hx);have hb:bits .and .u64 (IntKind.u64.wrap (-7)) 31 = 25:=by decide
 change _ = (S.rot x 7:Int) at ho;generalize S.rot x 7 = r at *;simp only [Int.natCast_emod,Int.natCast_mul,Int.natCast_ediv,Nat.reducePow,Nat.reduceSub,Int.cast_ofNat_Int] at ho;go_enter Tryz.func201,Tryz.ntmps201;go_wp2_with fail;go_ret;exact ⟨rfl,rfl⟩
theorem IQ (x:Nat) (w:World) (hx:x < 4294967296) :
  Calls Tryz.prog 180 #[.int .u32 (x:Int),.int .i64 7] w fun e w' => e = .returned (.int .u32 (S.rot x 7:Int)) ∧ w = w' := by
 go_enter Tryz.func180,Tryz.ntmps180;go_wp2_with fail;refine (aBG _ _ hx).mono ?_;rintro e w1 ⟨rfl,rfl⟩;go_wp2_with fail;go_ret;exact ⟨rfl,rfl⟩
theorem YD (x:Nat) (w:World) (hx:x < 4294967296) :
  Calls Tryz.prog 201 #[.int .u32 (x:Int),.int .i64 (-11)] w fun e w' => e = .returned (.int .u32 (S.rot x 11:Int)) ∧ w = w' := by
 have ho:=cI (x * 2 ^ (32 - 11) % 4294967296) (x / 2 ^ 11) (Nat.mod_lt _ (by decide)) (Nat.lt_of_le_of_lt (Nat.div_le_self _ _) hx);have hb:bits .and .u64 (IntKind.u64.wrap (-11)) 31 = 21:=by decide
 change _ = (S.rot x 11:Int) at ho;generalize S.rot x 11 = r at *;simp only [Int.natCast_emod,Int.natCast_mul,Int.natCast_ediv,Nat.reducePow,Nat.reduceSub,Int.cast_ofNat_Int] at ho;go_enter Tryz.func201,Tryz.ntmps201;go_wp2_with fail;go_ret;exact ⟨rfl,rfl⟩
theorem RS (x:Nat) (w:World) (hx:x < 4294967296) :
  Calls Tryz.prog 180 #[.int .u32 (x:Int),.int .i64 11] w fun e w' => e = .returned (.int .u32 (S.rot x 11:Int)) ∧ w = w' := by
 go_enter Tryz.func180,Tryz.ntmps180;go_wp2_with fail;refine (YD _ _ hx).mono ?_;rintro e w1 ⟨rfl,rfl⟩;go_wp2_with fail;go_ret;exact ⟨rfl,rfl⟩
theorem YC (x:Nat) (w:World) (hx:x < 4294967296) :
  Calls Tryz.prog 201 #[.int .u32 (x:Int),.int .i64 (-13)] w fun e w' => e = .returned (.int .u32 (S.rot x 13:Int)) ∧ w = w' := by
 have ho:=cI (x * 2 ^ (32 - 13) % 4294967296) (x / 2 ^ 13) (Nat.mod_lt _ (by decide)) (Nat.lt_of_le_of_lt (Nat.div_le_self _ _) hx);have hb:bits .and .u64 (IntKind.u64.wrap (-13)) 31 = 19:=by decide
 change _ = (S.rot x 13:Int) at ho;generalize S.rot x 13 = r at *;simp only [Int.natCast_emod,Int.natCast_mul,Int.natCast_ediv,Nat.reducePow,Nat.reduceSub,Int.cast_ofNat_Int] at ho;go_enter Tryz.func201,Tryz.ntmps201;go_wp2_with fail;go_ret;exact ⟨rfl,rfl⟩
theorem RR (x:Nat) (w:World) (hx:x < 4294967296) :
  Calls Tryz.prog 180 #[.int .u32 (x:Int),.int .i64 13] w fun e w' => e = .returned (.int .u32 (S.rot x 13:Int)) ∧ w = w' := by
 go_enter Tryz.func180,Tryz.ntmps180;go_wp2_with fail;refine (YC _ _ hx).mono ?_;rintro e w1 ⟨rfl,rfl⟩;go_wp2_with fail;go_ret;exact ⟨rfl,rfl⟩
theorem YB (x:Nat) (w:World) (hx:x < 4294967296) :
  Calls Tryz.prog 201 #[.int .u32 (x:Int),.int .i64 (-17)] w fun e w' => e = .returned (.int .u32 (S.rot x 17:Int)) ∧ w = w' := by
 have ho:=cI (x * 2 ^ (32 - 17) % 4294967296) (x / 2 ^ 17) (Nat.mod_lt _ (by decide)) (Nat.lt_of_le_of_lt (Nat.div_le_self _ _) hx);have hb:bits .and .u64 (IntKind.u64.wrap (-17)) 31 = 15:=by decide
 change _ = (S.rot x 17:Int) at ho;generalize S.rot x 17 = r at *;simp only [Int.natCast_emod,Int.natCast_mul,Int.natCast_ediv,Nat.reducePow,Nat.reduceSub,Int.cast_ofNat_Int] at ho;go_enter Tryz.func201,Tryz.ntmps201;go_wp2_with fail;go_ret;exact ⟨rfl,rfl⟩
theorem zE (x:Nat) (w:World) (hx:x < 4294967296) :
  Calls Tryz.prog 180 #[.int .u32 (x:Int),.int .i64 17] w fun e w' => e = .returned (.int .u32 (S.rot x 17:Int)) ∧ w = w' := by
 go_enter Tryz.func180,Tryz.ntmps180;go_wp2_with fail;refine (YB _ _ hx).mono ?_;rintro e w1 ⟨rfl,rfl⟩;go_wp2_with fail;go_ret;exact ⟨rfl,rfl⟩
theorem YA (x:Nat) (w:World) (hx:x < 4294967296) :
  Calls Tryz.prog 201 #[.int .u32 (x:Int),.int .i64 (-18)] w fun e w' => e = .returned (.int .u32 (S.rot x 18:Int)) ∧ w = w' := by
 have ho:=cI (x * 2 ^ (32 - 18) % 4294967296) (x / 2 ^ 18) (Nat.mod_lt _ (by decide)) (Nat.lt_of_le_of_lt (Nat.div_le_self _ _) hx);have hb:bits .and .u64 (IntKind.u64.wrap (-18)) 31 = 14:=by decide
 change _ = (S.rot x 18:Int) at ho;generalize S.rot x 18 = r at *;simp only [Int.natCast_emod,Int.natCast_mul,Int.natCast_ediv,Nat.reducePow,Nat.reduceSub,Int.cast_ofNat_Int] at ho;go_enter Tryz.func201,Tryz.ntmps201;go_wp2_with fail;go_ret;exact ⟨rfl,rfl⟩
theorem zD (x:Nat) (w:World) (hx:x < 4294967296) :
  Calls Tryz.prog 180 #[.int .u32 (x:Int),.int .i64 18] w fun e w' => e = .returned (.int .u32 (S.rot x 18:Int)) ∧ w = w' := by
 go_enter Tryz.func180,Tryz.ntmps180;go_wp2_with fail;refine (YA _ _ hx).mono ?_;rintro e w1 ⟨rfl,rfl⟩;go_wp2_with fail;go_ret;exact ⟨rfl,rfl⟩
theorem XY (x:Nat) (w:World) (hx:x < 4294967296) :
  Calls Tryz.prog 201 #[.int .u32 (x:Int),.int .i64 (-19)] w fun e w' => e = .returned (.int .u32 (S.rot x 19:Int)) ∧ w = w' := by
 have ho:=cI (x * 2 ^ (32 - 19) % 4294967296) (x / 2 ^ 19) (Nat.mod_lt _ (by decide)) (Nat.lt_of_le_of_lt (Nat.div_le_self _ _) hx);have hb:bits .and .u64 (IntKind.u64.wrap (-19)) 31 = 13:=by decide
 change _ = (S.rot x 19:Int) at ho;generalize S.rot x 19 = r at *;simp only [Int.natCast_emod,Int.natCast_mul,Int.natCast_ediv,Nat.reducePow,Nat.reduceSub,Int.cast_ofNat_Int] at ho;go_enter Tryz.func201,Tryz.ntmps201;go_wp2_with fail;go_ret;exact ⟨rfl,rfl⟩
theorem zC (x:Nat) (w:World) (hx:x < 4294967296) :
  Calls Tryz.prog 180 #[.int .u32 (x:Int),.int .i64 19] w fun e w' => e = .returned (.int .u32 (S.rot x 19:Int)) ∧ w = w' := by
 go_enter Tryz.func180,Tryz.ntmps180;go_wp2_with fail;refine (XY _ _ hx).mono ?_;rintro e w1 ⟨rfl,rfl⟩;go_wp2_with fail;go_ret;exact ⟨rfl,rfl⟩
theorem XX (x:Nat) (w:World) (hx:x < 4294967296) :
  Calls Tryz.prog 201 #[.int .u32 (x:Int),.int .i64 (-22)] w fun e w' => e = .returned (.int .u32 (S.rot x 22:Int)) ∧ w = w' := by
 have ho:=cI (x * 2 ^ (32 - 22) % 4294967296) (x / 2 ^ 22) (Nat.mod_lt _ (by decide)) (Nat.lt_of_le_of_lt (Nat.div_le_self _ _) hx);have hb:bits .and .u64 (IntKind.u64.wrap (-22)) 31 = 10:=by decide
 change _ = (S.rot x 22:Int) at ho;generalize S.rot x 22 = r at *;simp only [Int.natCast_emod,Int.natCast_mul,Int.natCast_ediv,Nat.reducePow,Nat.reduceSub,Int.cast_ofNat_Int] at ho;go_enter Tryz.func201,Tryz.ntmps201;go_wp2_with fail;go_ret;exact ⟨rfl,rfl⟩
theorem RQ (x:Nat) (w:World) (hx:x < 4294967296) :
  Calls Tryz.prog 180 #[.int .u32 (x:Int),.int .i64 22] w fun e w' => e = .returned (.int .u32 (S.rot x 22:Int)) ∧ w = w' := by
 go_enter Tryz.func180,Tryz.ntmps180;go_wp2_with fail;refine (XX _ _ hx).mono ?_;rintro e w1 ⟨rfl,rfl⟩;go_wp2_with fail;go_ret;exact ⟨rfl,rfl⟩
theorem XV (x:Nat) (w:World) (hx:x < 4294967296) :
  Calls Tryz.prog 201 #[.int .u32 (x:Int),.int .i64 (-25)] w fun e w' => e = .returned (.int .u32 (S.rot x 25:Int)) ∧ w = w' := by
 have ho:=cI (x * 2 ^ (32 - 25) % 4294967296) (x / 2 ^ 25) (Nat.mod_lt _ (by decide)) (Nat.lt_of_le_of_lt (Nat.div_le_self _ _) hx);have hb:bits .and .u64 (IntKind.u64.wrap (-25)) 31 = 7:=by decide
 change _ = (S.rot x 25:Int) at ho;generalize S.rot x 25 = r at *;simp only [Int.natCast_emod,Int.natCast_mul,Int.natCast_ediv,Nat.reducePow,Nat.reduceSub,Int.cast_ofNat_Int] at ho;go_enter Tryz.func201,Tryz.ntmps201;go_wp2_with fail;go_ret;exact ⟨rfl,rfl⟩
theorem RP (x:Nat) (w:World) (hx:x < 4294967296) :
  Calls Tryz.prog 180 #[.int .u32 (x:Int),.int .i64 25] w fun e w' => e = .returned (.int .u32 (S.rot x 25:Int)) ∧ w = w' := by
 go_enter Tryz.func180,Tryz.ntmps180;go_wp2_with fail;refine (XV _ _ hx).mono ?_;rintro e w1 ⟨rfl,rfl⟩;go_wp2_with fail;go_ret;exact ⟨rfl,rfl⟩
def bX (l:List Nat):List Nat:=l ++ List.replicate (64 - l.length) 0
theorem lL (l:List Nat) (h:l.length ≤ 64):(bX l).length = 64:=by unfold bX; simp; omega
theorem AX (l:List Nat) (j:Nat) (h:j < l.length) (h2:j < (bX l).length):(bX l)[j] = l.getD j 0:=by
 have:(bX l)[j]? = some (l.getD j 0):=by
  unfold bX;rw [List.getElem?_append_left h,List.getD_eq_getElem?_getD,List.getElem?_eq_getElem h]; rfl
 rw [List.getElem?_eq_getElem h2] at this;exact Option.some.inj this
theorem NZ (l:List Nat) (h:l.length < 64):bX (l ++ [0]) = bX l:=by
 unfold bX;rw [List.length_append,List.length_singleton,show 64 - l.length = (64 - (l.length + 1)) + 1 by omega,List.replicate_succ];simp
theorem OC (l:List Nat) (h:l.length = 64):bX l = l:=by unfold bX; rw [h]; simp
theorem Buf.other {w:World} {g:Nat} {l:List UInt8} (h:Buf w g l) (a:Addr) (v:Value) (hne:g ≠ a.block):Buf (w.setCell a v) g l:=by
 refine ⟨by simpa [World.setCell] using h.1,fun j hj=>⟨?_,?_⟩⟩
 ·have:=heap_setCell_other w a g v hne
  have hc:=h.cell j hj;unfold World.cell? at hc ⊢;simp only [this];exact hc
 ·rw [World.frozen?_setCell]; exact h.free j hj
theorem aBC (v c:Nat) (hv:v < 16777216) (hc:c < 256):bits .or .u32 ((v:Int) * 256) (c:Int) = ((v * 256 + c:Nat):Int):=by
 have e:(v:Int) * 256 = ((v * 256:Nat):Int):=by omega
 rw [e,cI (v * 256) c (by omega) (by omega),nat_join 8 (v * 256) c (by simp) (by simpa using hc)]
theorem PW (l:List UInt8) (t:Nat) (h:t ≤ 3):M.val (l.take t) < 16777216:=by
 have h1:=M.val_lt (l.take t);have h2:256 ^ (l.take t).length ≤ 256 ^ 3:=Nat.pow_le_pow_right (by decide) (by simp; omega);have h3:(256:Nat) ^ 3 = 16777216:=by decide
 omega
theorem kA (a b:Nat):((a:Int) + (b:Int)) % 4294967296 = (S.add a b:Int) ∧ IntKind.u32.wrap ((a:Int) + (b:Int)) = (S.add a b:Int):=by
 have:((a:Int) + (b:Int)) % 4294967296 = (S.add a b:Int):=by unfold S.add; omega
 exact ⟨this,by rw [IntKind.wrap_u32]; exact this⟩
theorem OZ (a b c:Nat):S.x3 a b c = a ^^^ b ^^^ c:=rfl
theorem aC1 (x:Nat):S.s0 x = S.x3 (S.rot x 7) (S.rot x 18) (x / 8):=rfl
theorem aC0 (x:Nat):S.s1 x = S.x3 (S.rot x 17) (S.rot x 19) (x / 1024):=rfl
theorem XS (x:Nat) (hx:x < 4294967296):∃ p:Nat,bits .xor .u32 (S.rot x 7:Int) (S.rot x 18:Int) = (p:Int) ∧ bits .xor .u32 (p:Int) ((x:Int) / 8) = (S.s0 x:Int):=by
 refine ⟨S.rot x 7 ^^^ S.rot x 18,dF _ _ (S.rot_lt _ _ hx) (S.rot_lt _ _ hx),?_⟩;have h:=dF (S.rot x 7 ^^^ S.rot x 18) (x / 8) (S.xor_lt (S.rot_lt _ _ hx) (S.rot_lt _ _ hx)) (Nat.lt_of_le_of_lt (Nat.div_le_self _ _) hx);simp only [Int.natCast_ediv,Int.cast_ofNat_Int] at h;rw [aC1,OZ];exact h
theorem XQ (x:Nat) (hx:x < 4294967296):∃ p:Nat,bits .xor .u32 (S.rot x 17:Int) (S.rot x 19:Int) = (p:Int) ∧ bits .xor .u32 (p:Int) ((x:Int) / 1024) = (S.s1 x:Int):=by
 refine ⟨S.rot x 17 ^^^ S.rot x 19,dF _ _ (S.rot_lt _ _ hx) (S.rot_lt _ _ hx),?_⟩;have h:=dF (S.rot x 17 ^^^ S.rot x 19) (x / 1024) (S.xor_lt (S.rot_lt _ _ hx) (S.rot_lt _ _ hx)) (Nat.lt_of_le_of_lt (Nat.div_le_self _ _) hx);simp only [Int.natCast_ediv,Int.cast_ofNat_Int] at h;rw [aC0,OZ];exact h
theorem PE (ws:List Nat) (n:Nat) {x y z u:Nat} (ex:ws.getD (n - 15) 0 = x) (ey:ws.getD (n - 2) 0 = y) (ez:ws.getD (n - 7) 0 = z) (eu:ws.getD (n - 16) 0 = u):S.wnext ws n = S.add (S.add (S.add (S.s1 y) z) (S.s0 x)) u:=by
 subst ex ey ez eu
 rfl
theorem OB (l:List Nat) (v:Nat) (h:l.length < 64):(bX l).set l.length v = bX (l ++ [v]):=by
 unfold bX;rw [List.set_append_right _ _ (Nat.le_refl _),Nat.sub_self,List.length_append,List.length_singleton,show 64 - l.length = (64 - (l.length + 1)) + 1 by omega,List.replicate_succ,List.set_cons_zero];simp
theorem OA (l:List Nat) (u v:Nat) (h:l.length < 64):(bX (l ++ [u])).set l.length v = bX (l ++ [v]):=by
 unfold bX;rw [List.append_assoc,List.append_assoc,List.set_append_right _ _ (Nat.le_refl _),Nat.sub_self,List.length_append,List.length_append]
 rfl
theorem Buf.openedS (w:World) (b:ByteArray):∃ cap w2 g,(convert 9 31 (.string b)).run Tryz.prog w = .ok (.slice (some ⟨g,0,none⟩) b.size cap) w2 ∧ Buf w2 g b.data.toList ∧ Below w.heap.size w w2 ∧ w.heap.size ≤ g :=
 ⟨_,_,_,run_bytes_of_string (P:=Tryz.prog) w 9 31 5 b Tryz.underlying9 Tryz.underlying31 Tryz.underlying5,Buf.made w b _,(Br.drew).alloc (Nat.le_refl _) _,Nat.le_refl _⟩
def W64 (b:List UInt8):List Nat:=S.wds b 64
def IsW (b:ByteArray) (L:List Nat):Prop:=W64 b.data.toList = L
theorem IsW.out {b:ByteArray} {L:List Nat} (h:IsW b L):W64 b.data.toList = L:=h
theorem yH (b:ByteArray) (L:List Nat) (w:World) (hb:b.size = 64) (HL:IsW b L) :
  Calls Tryz.prog 179 #[.string b] w fun e w' => e = .returned (.agg (U L)) ∧ Below w.heap.size w w' := by
 go_enter Tryz.func179,Tryz.ntmps179;go_wp2_with fail
 go_loopw [12] (fun i wr=>∃ n:Nat,n ≤ 16 ∧ i = .int .i64 (n:Int) ∧ Hid (Arr 224 wr (w.heap.size + 1) (bX (S.wds b.data.toList n))) ∧ Hid (Arr 224 wr w.heap.size (bX [])) ∧ Below w.heap.size w wr) (fun i _=>17 - (intOf i).toNat)
 case atStart =>
  refine ⟨0,by omega,rfl,Hd ?_,Hd ?_,(Br.alloc (Nat.le_refl _) _).alloc (by simp) _⟩
  ·have:=Arr.new (T:=224) (w.alloc (.cells (U (bX [])) 224)) (bX [])
   rw [show (w.alloc (.cells (U (bX [])) 224)).heap.size = w.heap.size + 1 by simp] at this;exact this
  ·exact (Arr.new (T:=224) w (bX [])).alloc _
 case round =>
  obtain ⟨n,hn,rfl,hA,hR,hbw⟩:=hrel
  by_cases hlt:n < 16
  ·have hli:(n:Int) < 16:=by omega
   have hi1:4 * (n:Int) + 4 ≤ (b.size:Int):=by omega
   obtain ⟨cap,w2,g,hbs,hB,hW,hg⟩:=Buf.openedS wr (b.extract (4 * n) (4 * n + 4));have hsz:(b.extract (4 * n) (4 * n + 4)).size = 4:=by rw [ByteArray.size_extract]; omega
   have hbl:(b.extract (4 * n) (4 * n + 4)).data.toList = (b.data.toList.drop (4 * n)).take 4:=by rw [aF,show 4 * n + 4 - 4 * n = 4 by omega]
   rw [hsz] at hbs;rw [hbl] at hB;have hwl:=S.wds_length b.data.toList n;have hlen4:((b.data.toList.drop (4 * n)).take 4).length = 4:=by rw [← hbl,cL,hsz]
   have A2:=Hd (hA.out.below hW);have R2:=Hd (hR.out.below hW);have HB:=Hd hB;have hg2:w.heap.size + 1 < g:=Nat.lt_of_lt_of_le hA.out.lt hg;have hbw2:Below w.heap.size w w2:=hbw.trans (hW.mono hbw.size);have WORD:Hid (S.wds b.data.toList (n + 1) = S.wds b.data.toList n ++ [M.val (((b.data.toList.drop (4 * n)).take 4).take 4)]):=Hd (by rw [S.wds,if_pos hlt,S.word,List.take_take,Nat.min_self]);generalize (b.data.toList.drop (4 * n)).take 4 = l4 at *;generalize S.wds b.data.toList n = ws at *;have HWL:=Hd hwl;have HL4:=Hd hlen4;clear hwl hlen4 hB hbl hsz hA hR hbw
   go_wp2_with fail
   go_loopw [6,24] (fun _ t wx=>∃ j:Nat,j ≤ 4 ∧ t = .int .i64 (j:Int) ∧ Hid (Arr 224 wx (w.heap.size + 1) (bX (ws ++ [M.val (l4.take j)]))) ∧ Hid (Arr 224 wx w.heap.size (bX [])) ∧ Hid (Buf wx g l4) ∧ Below w.heap.size w wx) (fun _ t _=>5 - (intOf t).toNat)
   case atStart=>exact ⟨0,by omega,rfl,Hd (by rw [List.take_zero,M.val_nil,NZ _ (by rw [HWL.out]; omega)]; exact A2.out),R2,HB,hbw2⟩
   case round =>
    obtain ⟨j,hj,rfl,hA,hR,hBf,hbx⟩:=hrel
    by_cases hjl:j < 4
    ·have hji:(j:Int) < 4:=by omega
     have hjl4:j < l4.length:=by rw [HL4.out]; exact hjl
     have hcb:=hBf.out.cell j hjl4;have hfl:n < (bX (ws ++ [M.val (l4.take j)])).length:=by rw [lL _ (by rw [List.length_append,HWL.out]; simp; omega)]; omega
     have hca:=hA.out.cell n hfl;have hfr:=hA.out.free n
     have hget:(bX (ws ++ [M.val (l4.take j)]))[n] = M.val (l4.take j):=by
      rw [AX _ n (by rw [List.length_append,HWL.out]; simp) hfl,List.getD_eq_getElem?_getD,List.getElem?_append_right (by rw [HWL.out]; exact Nat.le_refl _),HWL.out,Nat.sub_self]
      rfl
     rw [hget] at hca;have hc256:=UInt8.toNat_lt (l4[j]);have hv24:=PW l4 j (by omega);have hO:=aBC _ _ hv24 hc256;have hset:=hA.out.set n (M.val (l4.take j) * 256 + (l4[j]).toNat);have hval:M.val (l4.take (j + 1)) = M.val (l4.take j) * 256 + (l4[j]).toNat:=by rw [List.take_succ_eq_append_getElem hjl4,M.val_snoc]
     have hfs:=OA ws (M.val (l4.take j)) (M.val (l4.take j) * 256 + (l4[j]).toNat) (by rw [HWL.out]; omega);rw [HWL.out] at hfs;rw [hfs,← hval] at hset;rw [← hval] at hO;have NXA:=Hd hset;have NXR:=Hd (hR.out.other ⟨w.heap.size + 1,n,none⟩ (.int .u32 ((M.val (l4.take (j + 1)):Nat):Int)) (by simp));have NXB:=Hd (hBf.out.other ⟨w.heap.size + 1,n,none⟩ (.int .u32 ((M.val (l4.take (j + 1)):Nat):Int)) (by show g ≠ w.heap.size + 1; omega));have hv32:M.val (l4.take (j + 1)) < 4294967296:=by rw [hval]; omega
     clear hset hval hfs hget hfl hA hR hBf;generalize hV:M.val (l4.take (j + 1)) = v2 at *;have V2:=Hd hV;clear hV;generalize M.val (l4.take j) = v1 at *;generalize (l4[j]).toNat = c at *;clear hjl4;go_wp2_with fail;go_roundw
     case rel=>exact ⟨j + 1,by omega,by go_num,by rw [V2.out]; exact NXA,NXR,NXB,hbx.setCell (by simp) _⟩
     case measure=>simp [intOf]; omega
    ·obtain rfl:j = 4:=by omega
     have AN:=Hd (show Arr 224 _ (w.heap.size + 1) (bX (S.wds b.data.toList (n + 1))) by rw [WORD.out]; exact hA.out);have hji:¬ (((4:Nat):Int) < 4):=by omega
     go_wp2_with fail;go_roundw
     case rel=>exact ⟨n + 1,by omega,by go_num,AN,hR,hbx⟩
     case measure=>simp [intOf]; omega
  ·obtain rfl:n = 16:=by omega
   have hli:¬ (((16:Nat):Int) < 16):=by omega
   go_wp2_with fail
   go_loopw [7] (fun i wx=>∃ n:Nat,16 ≤ n ∧ n ≤ 64 ∧ i = .int .i64 (n:Int) ∧ Hid (Arr 224 wx (w.heap.size + 1) (bX (S.wds b.data.toList n))) ∧ Hid (Arr 224 wx w.heap.size (bX [])) ∧ Below w.heap.size w wx) (fun i _=>65 - (intOf i).toNat)
   case atStart=>exact ⟨16,by omega,by omega,rfl,hA,hR,hbw⟩
   case round =>
    obtain ⟨n,hn16,hn64,rfl,hA,hR,hbx⟩:=hrel;have hwl:=S.wds_length b.data.toList n;have hwlt:=S.wds_lt b.data.toList n
    by_cases hlt:n < 64
    ·have hli:(n:Int) < 64:=by omega
     have hi0:16 ≤ (n:Int):=by omega
     have WORD:Hid (S.wds b.data.toList (n + 1) = S.wds b.data.toList n ++ [S.wnext (S.wds b.data.toList n) n]):=Hd (by rw [S.wds,if_neg (by omega)])
     have get:∀ k,k < n → ∃ v,v < 4294967296 ∧ (S.wds b.data.toList n).getD k 0 = v ∧ wr.cell? ⟨w.heap.size + 1,k,none⟩ = some (.int .u32 ((v:Nat):Int)):=fun k hk=>by
      have hkl:k < (bX (S.wds b.data.toList n)).length:=by rw [lL _ (by omega)]; omega
      have hkw:k < (S.wds b.data.toList n).length:=by omega
      refine ⟨_,?_,rfl,?_⟩
      ·rw [List.getD_eq_getElem?_getD,List.getElem?_eq_getElem hkw]; exact hwlt _ (List.getElem_mem hkw)
      ·have:=hA.out.cell k hkl
       rwa [AX _ k hkw hkl] at this
     obtain ⟨x,hx,ex,cx⟩:=get (n - 15) (by omega);obtain ⟨y,hy,ey,cy⟩:=get (n - 2) (by omega);obtain ⟨z,hz,ez,cz⟩:=get (n - 7) (by omega);obtain ⟨u,hu,eu,cu⟩:=get (n - 16) (by omega);have hnx:S.wnext (S.wds b.data.toList n) n = S.add (S.add (S.add (S.s1 y) z) (S.s0 x)) u:=PE _ _ ex ey ez eu;have hfn:=OB (S.wds b.data.toList n) (S.wnext (S.wds b.data.toList n) n) (by omega);rw [hwl,← WORD.out,hnx] at hfn;have hfr:=hA.out.free n;have hfl:n < (bX (S.wds b.data.toList n)).length:=by rw [lL _ (by omega)]; omega
     have hcn:=hA.out.cell n hfl;generalize (Value.int .u32 (((bX (S.wds b.data.toList n))[n]:Nat):Int)) = cv at hcn;obtain ⟨p1,f1,f2⟩:=XS x hx;obtain ⟨p2,f3,f4⟩:=XQ y hy;have g1:=kA (S.s1 y) z;have g2:=kA (S.add (S.s1 y) z) (S.s0 x);have g3:=kA (S.add (S.add (S.s1 y) z) (S.s0 x)) u;have HN:=Hd hfn;clear hnx hfn hfl get hwl hwlt ex ey ez eu WORD;generalize S.add (S.add (S.add (S.s1 y) z) (S.s0 x)) u = q3 at *;generalize S.add (S.add (S.s1 y) z) (S.s0 x) = q2 at *;generalize S.add (S.s1 y) z = q1 at *;generalize S.s0 x = sx at *
     generalize S.s1 y = sy at *;obtain ⟨g11,g12⟩:=g1;obtain ⟨g21,g22⟩:=g2;obtain ⟨g31,g32⟩:=g3;go_wp2_with fail
     go_quiet (fail)
     go_wp2_with fail;refine (IQ _ _ hx).mono ?_;rintro e w9 ⟨rfl,rfl⟩;go_wp2_with fail;refine (zD _ _ hx).mono ?_;rintro e w9 ⟨rfl,rfl⟩;go_wp2_with fail;refine (zE _ _ hy).mono ?_;rintro e w9 ⟨rfl,rfl⟩;go_wp2_with fail;refine (zC _ _ hy).mono ?_;rintro e w9 ⟨rfl,rfl⟩;obtain ⟨wq,hwq⟩:∃ wq,wr.drewN nq = wq:=⟨_,rfl⟩
     rw [hwq];have HA2:=Hd (show Arr 224 wq (w.heap.size + 1) _ by rw [← hwq]; exact hA.out.drewN nq);have HR2:=Hd (show Arr 224 wq w.heap.size _ by rw [← hwq]; exact hR.out.drewN nq);have hbx2:Below w.heap.size w wq:=by rw [← hwq]; exact bB hbx nq
     have cz2:wq.cell? ⟨w.heap.size + 1,n - 7,none⟩ = some (.int .u32 ((z:Nat):Int)):=by rw [← hwq]; exact cz
     have cu2:wq.cell? ⟨w.heap.size + 1,n - 16,none⟩ = some (.int .u32 ((u:Nat):Int)):=by rw [← hwq]; exact cu
     have cn2:wq.cell? ⟨w.heap.size + 1,n,none⟩ = some cv:=by rw [← hwq]; exact hcn
     have fr2:wq.frozen? ⟨w.heap.size + 1,n,none⟩ = false:=by rw [← hwq]; exact hfr
     clear hwq hA hR hbx cz cu cx cy hcn hfr;go_wp2_with fail
     go_region
     all_goals
      go_wp2_with fail;go_roundw
      case rel=>exact ⟨n + 1,by omega,by omega,by go_num,Hd (by rw [← HN.out]; exact (HA2.out.set n q3).drew),Hd ((HR2.out.other _ _ (by simp)).drew),(hbx2.setCell (by simp) _).drew⟩
      case measure=>simp [intOf]; omega
    ·obtain rfl:n = 64:=by omega
     have hli:¬ (((64:Nat):Int) < 64):=by omega
     have hA2:=hA.out;rw [OC _ hwl] at hA2;change Arr _ _ _ (W64 b.data.toList) at hA2;rw [HL.out] at hA2;have hlen:L.length = 64:=by rw [← HL.out]; exact S.wds_length _ _
     have hinfo:(Tryz.prog.info? 224).map (·.size) = some (U L).size:=by rw [bN,hlen]; kernel_rfl
     have hold:(U (bX [])).size = (U L).size:=by rw [bN,bN,hlen]; rfl
     have hone:=mP L;have hR2:=hR.out;have hrow:=hR2.row L;have hdone:Below w.heap.size w (wr.setRow w.heap.size (U L)):=below_setRow hbx (Nat.le_refl _) _;have A2:=Hd hA2;have R2:=Hd hR2;have IN:=Hd hinfo;have OL:=Hd hold;have ON:=Hd hone;have RW:=Hd hrow;clear hA2 hinfo hold hone hR2 hrow hA hR hwl hwlt hlen;go_upto_region 18 with fail
     go_step
     refine wpList_load_row rfl 224 (.tmp 3) rfl (w.heap.size + 1) rfl 224 (U L) (0,0) _ A2.out Tryz.underlying224 rfl IN.out ?_;refine wpList_store_row rfl 224 (.tmp 2) (.tmp 82) rfl w.heap.size (U L) rfl rfl 224 (U (bX [])) R2.out IN.out OL.out ON.out ?_;go_wp2_with fail;exact bodyPost_ret (v:=.agg (U L)) (results_cell_row Tryz.results179 _ _ w.heap.size 224 (U L) (0,0) _ rfl RW.out Tryz.underlying224 rfl IN.out) rfl ⟨rfl,hdone⟩
theorem DB (b:ByteArray) (w:World) (hb:b.size = 64) :
  Calls Tryz.prog 179 #[.string b] w fun e w' => e = .returned (.agg (U (W64 b.data.toList))) ∧ Below w.heap.size w w' :=
 yH b _ w hb (show IsW b _ from rfl)
theorem gB:(Tryz.prog.info? 221).map (·.size) = some 8:=by kernel_rfl
theorem sR:(Tryz.prog.info? 224).map (·.size) = some 64:=by kernel_rfl
theorem NW (w:World) :
  Calls Tryz.prog 152 #[] w fun e w' => e = .returned (.agg (U S.HS.list)) ∧ Below w.heap.size w w' := by
 go_enter Tryz.func152,Tryz.ntmps152;go_wp2_with fail;exact bodyPost_ret (v:=.agg (U S.HS.list)) (by simp [results,Tryz.results152,go_sem]; rfl) rfl ⟨rfl,Br.alloc (Nat.le_refl _) _⟩
def IsK (L:List Nat):Prop:=S.KS = L
theorem CW (L:List Nat) (w:World) (HL:IsK L) :
  Calls Tryz.prog 153 #[] w fun e w' => e = .returned (.agg (U L)) ∧ Below w.heap.size w w' := by
 have hlen:L.length = 64:=by have h:S.KS = L:=HL; rw [← h]; rfl
 have hone:=mP L;have hinfo:(Tryz.prog.info? 224).map (·.size) = some (U L).size:=by rw [bN,hlen]; exact sR
 have hold:(U (bX [])).size = (U L).size:=by rw [bN,bN,hlen]; rfl
 have hZ:Arr 224 (w.alloc (.cells (U (bX [])) 224)) w.heap.size (bX []):=Arr.new w _;have hrow:=hZ.row L;have hdone:Below w.heap.size w ((w.alloc (.cells (U (bX [])) 224)).setRow w.heap.size (U L)):=below_setRow (Br.alloc (Nat.le_refl _) _) (Nat.le_refl _) _;have RW:=Hd hrow;have IN:=Hd hinfo;have OL:=Hd hold;have ON:=Hd hone;have HZ:=Hd hZ;clear hlen hone hinfo hold hZ hrow;go_enter Tryz.func153,Tryz.ntmps153;go_upto_region 1 with fail
 go_step
 refine wpList_build rfl _ _ rfl (by kernel_rfl) ?_;generalize hV:(Option.getD (Program.built _ _ _) #[]) = V
 have hVE:V = U L:=by
  have h:S.KS = L:=HL;rw [← h];exact hV.symm.trans (by kernel_rfl)
 subst hVE;clear hV;refine wpList_store_row rfl 224 (.tmp 0) (.tmp 1) rfl w.heap.size (U L) rfl rfl 224 (U (bX [])) HZ.out IN.out OL.out ON.out ?_;go_wp2_with fail;exact bodyPost_ret (v:=.agg (U L)) (results_cell_row Tryz.results153 _ _ w.heap.size 224 (U L) (0,0) _ rfl RW.out Tryz.underlying224 rfl IN.out) rfl ⟨rfl,hdone⟩
theorem KX (w:World) :
  Calls Tryz.prog 153 #[] w fun e w' => e = .returned (.agg (U S.KS)) ∧ Below w.heap.size w w' :=
 CW _ w (show IsK _ from rfl)
theorem aDS (x:Nat):S.S1 x = S.x3 (S.rot x 6) (S.rot x 11) (S.rot x 25):=rfl
theorem aDT (x:Nat):S.S0 x = S.x3 (S.rot x 2) (S.rot x 13) (S.rot x 22):=rfl
theorem aDI (e f g:Nat):S.ch e f g = (e &&& f) ^^^ ((4294967295 ^^^ e) &&& g):=rfl
theorem aBR (a b c:Nat):S.maj a b c = S.x3 (a &&& b) (a &&& c) (b &&& c):=rfl
theorem vO (a b c:Nat) (ha:a < 4294967296) (hb:b < 4294967296) (hc:c < 4294967296):bits .xor .u32 (bits .xor .u32 (a:Int) (b:Int)) (c:Int) = (S.x3 a b c:Int):=by
 rw [dF a b ha hb,dF _ c (S.xor_lt ha hb) hc,OZ]
theorem aAE (e f g:Nat) (he:e < 4294967296) (hf:f < 4294967296) (hg:g < 4294967296):bits .xor .u32 (bits .and .u32 (e:Int) (f:Int)) (bits .and .u32 (bits .xor .u32 IntKind.u32.max (e:Int)) (g:Int)) = (S.ch e f g:Int):=by
 have hm:IntKind.u32.max = ((4294967295:Nat):Int):=by decide
 rw [hm,gP e f he hf,dF 4294967295 e (by decide) he,gP _ g (S.xor_lt (by decide) he) hg,dF _ _ (S.and_lt he) (S.and_lt (S.xor_lt (by decide) he)),aDI]
theorem aCZ (s:S.St) (k w:Nat):S.t1 s k w = S.add (S.add (S.add (S.add s.h (S.S1 s.e)) (S.ch s.e s.f s.g)) k) w:=rfl
theorem aCY (s:S.St):S.t2 s = S.add (S.S0 s.a) (S.maj s.a s.b s.c):=rfl
theorem tK (a b:Nat):S.add a b = (a + b) % 4294967296:=rfl
theorem WU (s:S.St) (k w:Nat) (he:s.e < 4294967296) (hf:s.f < 4294967296) (hg:s.g < 4294967296) :
  ((s.h:Int) + bits .xor .u32 (bits .xor .u32 (S.rot s.e 6:Int) (S.rot s.e 11:Int)) (S.rot s.e 25:Int) + bits .xor .u32 (bits .and .u32 (s.e:Int) (s.f:Int)) (bits .and .u32 (bits .xor .u32 IntKind.u32.max (s.e:Int)) (s.g:Int)) + (k:Int) + (w:Int)) % 4294967296 = (S.t1 s k w:Int):=by
 rw [vO _ _ _ (S.rot_lt _ _ he) (S.rot_lt _ _ he) (S.rot_lt _ _ he),aAE _ _ _ he hf hg,← aDS,aCZ,tK,tK,tK,tK];generalize S.S1 s.e = p;generalize S.ch s.e s.f s.g = q;omega
theorem WT (s:S.St) (ha:s.a < 4294967296) (hb:s.b < 4294967296) (hc:s.c < 4294967296) :
  (bits .xor .u32 (bits .xor .u32 (S.rot s.a 2:Int) (S.rot s.a 13:Int)) (S.rot s.a 22:Int) + bits .xor .u32 (bits .xor .u32 (bits .and .u32 (s.a:Int) (s.b:Int)) (bits .and .u32 (s.a:Int) (s.c:Int))) (bits .and .u32 (s.b:Int) (s.c:Int))) % 4294967296 = (S.t2 s:Int):=by
 rw [vO _ _ _ (S.rot_lt _ _ ha) (S.rot_lt _ _ ha) (S.rot_lt _ _ ha),gP _ _ ha hb,gP _ _ ha hc,gP _ _ hb hc,vO _ _ _ (S.and_lt ha) (S.and_lt ha) (S.and_lt hb),← aDT,← aBR,aCY,tK];generalize S.S0 s.a = p;generalize S.maj s.a s.b s.c = q;omega
end Go.Proofs.YthcejfnngkmojaaGreatDoor
