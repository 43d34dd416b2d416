import Derived.Test.YtknikcihgijmlaaGreatDoorM22
import Derived.RegionIn
namespace Go.Proofs.YtknikcihgijmlaaGreatDoor
open Go Go.RowKit
set_option maxRecDepth 20000
set_option maxHeartbeats 12800000
set_option linter.unusedVariables false
set_option linter.unusedSimpArgs false
theorem tso {w0 w W4 Wz:World}{F G:Nat->Prop}{R Cb Rb:List Nat}{t d s n D:Nat}{E:List Ent}
  (hl:(∀ k∈R,k<w.heap.size)/\t<w.heap.size)(f0:Below w0.heap.size w0 w)(hnF:∀ k∈R,¬ F k)(hFl:∀ k,F k->k<w.heap.size)
  (q:Below w.heap.size w W4)(hCb:∀ k∈Cb,w.heap.size<=k/\k<W4.heap.size)(hRb:∀ k∈Rb,Wz.heap[k]?=w.heap[k]?)
  (hV:TxF w0 F Wz t d s n E)(hfr:Frm (fun k=>(k∈Cb\/k∈Rb)\/G k) W4 Wz)(hG:∀ k,G k->F k\/k=t\/k<w0.heap.size\/w.heap.size<=k)
  (hD:W4.heap.size<=D)(hdef:D<Wz.heap.size):TxS w0 (D::(Cb++R)) Wz t d s n E/\KeptT R t w Wz:=by
 have qs:=q.size;have hz:=hfr.size;refine⟨hV.hide fun k hk=>?_,fun k hk hn=>?_⟩
 ·rcases List.mem_cons.1 hk with rfl|hk
  ·exact⟨hdef,fun e=>by have:=hFl _ e;omega⟩
  ·rcases List.mem_append.1 hk with hk|hk
   ·have:=hCb k hk
    exact⟨by omega,fun e=>by have:=hFl _ e;omega⟩
   ·exact⟨by have:=hl.1 k hk;omega,hnF k hk⟩
 ·have hkw:=hl.1 k hk
  by_cases hkb:k∈Rb
  ·exact hRb k hkb
  ·by_cases hk0:k<w0.heap.size
   ·exact(hV.from.block k hk0).trans (f0.block k hk0).symm
   ·refine(hfr.block k (by omega) ?_).trans (q.block k hkw)
    rintro((h|h)|h)
    ·have:=hCb k h;omega
    ·exact hkb h
    ·rcases hG k h with h|h|h|h
     ·exact hnF k hk h
     ·exact hn h
     ·exact hk0 h
     ·omega
theorem lU {P:Program}{fn:Func}{p q:Tmp}{ty tz:TypeId}(h:fn.results=#[.cell p ty,.cell q tz])(tmps:Array Value)(w:World)(g:Nat)(t:TypeId)(cs:Array Value)(fr:Nat × Nat)(d:TypeDesc)(b:Option Addr)(u:Value)
  (hp:tmps.getD p undef=.pointer (some ⟨g,0,none⟩))(hg:w.heap[g]?=some (.cells cs t fr))(hu:P.underlying ty=some d)(hd:(match d with|.struct _|.array _ _=>true|_=>false)=true)(hi:(P.info? ty).map (·.size)=some cs.size)
  (hq:tmps.getD q undef=.pointer b)(h2:((asAddr (.pointer b)).run P w).andThen (fun a w₁=>(loadVar tz a).run P w₁)=.ok u w) :
  (results fn tmps).run P w=.ok (.tuple #[.agg cs,u]) w:=
 AN h tmps w (some ⟨g,0,none⟩) b (.agg cs) u hp hq (by simp[asAddr,run_loadVar_row w g t ty cs fr d hg hu hd hi,Result.andThen]) h2
def mD:Nat->List bV->List Ent
 | _,[]=>[]
 | i,o::os=>(aC 3 0 ((i:Int)+1),fB o)::mD (i+1) os
theorem rZ:∀ (os:List bV) (i j:Nat),(mD i os)[j]?=os[j]?.map fun o=>(aC 3 0 (((i+j:Nat):Int)+1),fB o)
 | [],i,j=>by simp[mD]
 | o::os,i,0=>by simp[mD]
 | o::os,i,j+1=>by
  rw[mD,List.getElem?_cons_succ,List.getElem?_cons_succ,rZ os (i+1) j,show i+1+j=i+(j+1) by omega]
theorem BF:∀ (os:List bV) (i:Nat),(mD i os).length=os.length
 | [],i=>rfl
 | o::os,i=>by rw[mD,List.length_cons,BF os (i+1),List.length_cons]
def aEQ (os:List bV)(f:ByteArray)(id:Int)(p:bV)(e:Int):Prop:=
 (∃ i:Nat,os[i]?=some p/\id=(i:Int)+1/\p.nm=f/\e=0/\∀ (j:Nat) (q:bV),j<i->os[j]?=some q->q.nm≠f)\/((∀ (j:Nat) (q:bV),os[j]?=some q->q.nm≠f)/\id=0/\p=⟨⟨#[]⟩,0,0⟩/\e=3)
def NmI (n0 nf:Nat)(f:ByteArray)(os:List bV)(pre:List Ent)(D:Nat->Prop)(W:World):Prop:=(∀ k,D k ↔ k∈[n0,n0+1,nf]\/k∈([]:List Nat))/\W.heap[n0]?=some (.cells #[(0:Int),.string ⟨#[]⟩,(0:Int),(0:Int)] 49)/\W.heap[n0+1]?=some (.cells #[(0:Int)] 26)/\W.heap[nf]?=some (.cells #[f] 9)/\∀ (j:Nat) (q:bV),j<pre.length->os[j]?=some q->q.nm≠f
def NmX (n0 nf:Nat)(f:ByteArray)(os:List bV)(pre:List Ent)(D:Nat->Prop)(W:World):Prop:=(∀ k,D k ↔ k∈[n0,n0+1,nf]\/k∈([]:List Nat))/\∃ (m:Nat) (q:bV),W.heap[n0]?=some (.cells #[.int .i64 ((m:Int)+1),q.nm,q.li,q.ha] 49)/\W.heap[n0+1]?=some (.cells #[(0:Int)] 26)/\W.heap[nf]?=some (.cells #[f] 9)/\os[m]?=some q/\q.nm=f/\∀ (j:Nat) (r:bV),j<m->os[j]?=some r->r.nm≠f
theorem NmI.on {n0 nf:Nat}{f:ByteArray}{os:List bV}(pre:List Ent)(D:Nat->Prop)(A B:World)(h:NmI n0 nf f os pre D A)(ho:OnC D A B):NmI n0 nf f os pre D B:=by
 obtain⟨h1,h2,h3,h4,h5⟩:=h;have lt:∀ {k:Nat} {o:Obj},A.heap[k]?=some o->k<A.heap.size:=fun h=>(zl h)
 exact⟨h1,(ho.block _ (lt h2) ((h1 _).2 (by simp))).trans h2,(ho.block _ (lt h3) ((h1 _).2 (by simp))).trans h3,(ho.block _ (lt h4) ((h1 _).2 (by simp))).trans h4,h5⟩
theorem NmX.on {n0 nf:Nat}{f:ByteArray}{os:List bV}(pre:List Ent)(D:Nat->Prop)(A B:World)(h:NmX n0 nf f os pre D A)(ho:OnC D A B):NmX n0 nf f os pre D B:=by
 obtain⟨h1,m,q,h2,h3,h4,h5⟩:=h;have lt:∀ {k:Nat} {o:Obj},A.heap[k]?=some o->k<A.heap.size:=fun h=>(zl h)
 exact⟨h1,m,q,(ho.block _ (lt h2) ((h1 _).2 (by simp))).trans h2,(ho.block _ (lt h3) ((h1 _).2 (by simp))).trans h3,(ho.block _ (lt h4) ((h1 _).2 (by simp))).trans h4,h5⟩
theorem NmI.lt {n0 nf:Nat}{f:ByteArray}{os:List bV}(pre:List Ent)(D:Nat->Prop)(A:World)(h:NmI n0 nf f os pre D A)(k:Nat)(hk:D k):k<A.heap.size:=by
 obtain⟨h1,h2,h3,h4,h5⟩:=h;have hk':=(h1 k).1 hk;simp only[List.mem_cons,List.not_mem_nil,or_false] at hk'
 rcases hk' with rfl|rfl|rfl
 ·exact(zl h2)
 ·exact(zl h3)
 ·exact(zl h4)
theorem NmX.lt {n0 nf:Nat}{f:ByteArray}{os:List bV}(pre:List Ent)(D:Nat->Prop)(A:World)(h:NmX n0 nf f os pre D A)(k:Nat)(hk:D k):k<A.heap.size:=by
 obtain⟨h1,m,q,h2,h3,h4,h5⟩:=h;have hk':=(h1 k).1 hk;simp only[List.mem_cons,List.not_mem_nil,or_false] at hk'
 rcases hk' with rfl|rfl|rfl
 ·exact(zl h2)
 ·exact(zl h3)
 ·exact(zl h4)
section
attribute [local go_sem] Oper.semAt_some
theorem wL {w0 w:World}{R:List Nat}{t d s n:Nat}{E:List Ent}{bn bt:Nat}{nm f:ByteArray}{os:List bV}{id e:Int}{p:bV}(h:TxS w0 R w t d s n E)(hb:w.heap[bn]?=some (.cells #[nm] 9))(ht:w.heap[bt]?=some (.cells #[t] 24))(hm:(bn∈R/\bn≠t/\w0.heap.size<=bn)/\(bt∈R/\bt≠t/\w0.heap.size<=bt))(hE:E.length<=600)(hK:jS E)
  (hos:((bD (aC 3 0 0) E).takeWhile fun e=>dI e.1 3 0)=mD 0 os)(hok:∀ (i:Nat) (o:bV),os[i]?=some o->fF ((i:Int)+1) o)(hnm:nm.size<=140737488351232)(hr:cY nm=true)(hf:gR nm=f)(hres:aEQ os f id p e) :
  () 75 #[bn,bt] w fun e' w'=>e'=.returned (.tuple #[.agg #[id,p.nm,p.li,p.ha],.int .i64 e])/\TxS w0 R w' t d s n E/\KeptT R t w w':=by
 have FO:=Hd (fun w=>by have:=tU nm w hnm;rw[hr,hf] at this;exact this);have HV:=Hd hres;have HOS:=Hd (And.intro hos hok);have HEK:=Hd (And.intro hE hK);clear hres hos hok hnm hr hf hE hK;obtain⟨n0,hn0⟩:∃ n0,w.heap.size=n0:=⟨_,rfl⟩
 obtain⟨x1,hx1⟩:∃ x,w.alloc (.cells #[(0:Int),.string ⟨#[]⟩,(0:Int),(0:Int)] 49)=x:=⟨_,rfl⟩
 obtain⟨x2,hx2⟩:∃ x,x1.alloc (.cells #[(0:Int)] 26)=x:=⟨_,rfl⟩
 obtain⟨s1,m1,b1⟩:=jP hx1 hn0;obtain⟨s2,m2,b2⟩:=jP hx2 s1;have b12:Below w.heap.size w x2:=b1.trans (b2.mono (by omega));have n1:=(b2.block n0 (by omega)).trans m1;have hl:=h.lt;obtain⟨F,hF,hnF,hFl⟩:=h.said;have lF3:=hF.lt;have hn2:=(b12.block bn (hl.1 bn hm.1.1)).trans hb;have ht2:=(b12.block bt (hl.1 bt hm.2.1)).trans ht;have HF:=Hd (And.intro hF (And.intro hnF (And.intro lF3 (And.intro hl h.from))));have HB:=Hd (And.intro s2 (And.intro n1 (And.intro m2 (And.intro b12 ht2))));have HX:=Hd (And.intro hx1 hx2);have HN:=Hd hn0;have HM:=Hd hm
 have ct:=(aE hn2).1;clear h hb ht hx1 hx2 s1 s2 m1 m2 b1 b2 b12 n1 hl hF hnF hFl lF3 hn2 ht2 hm;refine(callsIn_wide (n:=0)).1 (callsIn_of_wp_marks (F:=Fence.wide) (n:=0) Tryz.func75 rfl trivial (wpIn_wide.2 ?_) rfl);simp only[Tryz.ntmps75,List.size_toArray,List.length_cons,List.length_nil,Nat.reduceAdd,Nat.reduceSub,Array.replicate_succ,Array.replicate_zero,List.push_toArray,List.append_toArray,List.nil_append,List.cons_append];go_upto_region 1 with fail
 try rw[HX.1,HX.2]
 try rw[hn0]
 clear hn0;go_wp2_with fail;refine(FO _).mono ?_;rintro e w3 ⟨rfl,b3⟩;obtain⟨nf,hnf⟩:∃ n,w3.heap.size=n:=⟨_,rfl⟩
 obtain⟨x4,hx4⟩:∃ x,w3.alloc (.cells #[f] 9)=x:=⟨_,rfl⟩
 obtain⟨s4,m4,b4⟩:=jP hx4 hnf;have q4:Below w.heap.size w x4:=(HB.2.2.2.1.trans (b3.mono HB.2.2.2.1.size)).trans (b4.mono (Nat.le_trans HB.2.2.2.1.size b3.size));have c24:Below x2.heap.size x2 x4:=b3.trans (b4.mono b3.size);have t4:=qB HB.2.2.2.2 c24;have i0:=qB HB.2.1 c24;have i1:=qB HB.2.2.1 c24;have nfl:n0+1<nf:=by have:=b3.size;have:=HB.1;omega
 have H4:=Hd (And.intro q4 (And.intro s4 (And.intro i0 (And.intro i1 (And.intro m4 nfl)))));have X4:=Hd (And.intro hx4 hnf);have c4:=(aE t4).1;clear b3 s4 m4 b4 q4 c24 t4 i0 i1 nfl hx4 hnf ct;go_upto_region 2 with fail
 rw[X4.1,X4.2];go_wp2_with fail;refine(wI _ t 3 0 0).mono ?_;rintro e w5 ⟨rfl,m5,q5,s5⟩;clear c4;go_wp2_with fail;obtain⟨nb,hnb⟩:∃ n,x4.heap.size=n:=⟨_,rfl⟩
 rw[hnb] at m5 q5 s5 |-;have h4:=H4.o;have hF:=HF.o;have q5w:Below w.heap.size w w5:=h4.1.trans (q5.mono (by rw[<-hnb];exact h4.1.size));have hT5:=hF.1.below q5w;have hn:=HN.o;have hnb':nf+1=nb:=by rw[<-hnb];exact h4.2.1.symm
 have f0:=hF.2.2.2.2.size;have lF:=hT5.lt;have hnF':∀ k,F k->k<n0:=fun k hk=>by have:=hF.2.2.1.1 k hk;omega
 have htn:=hF.2.2.2.1.2;have hit:=wH hT5 HEK.1 HEK.2.1 HEK.2.2 m5 ⟨⟨fun e=>by have:=hnF' _ e;omega,by omega,by omega⟩,⟨fun e=>by have:=hnF' _ e;omega,by omega,by omega⟩⟩ (by decide:bM 3 0 0=true) (rfl:aC 3 0 0=aC 3 0 0);rw[HOS.1] at hit;have i5:NmI n0 nf f os [] (fun k=>k∈[n0,n0+1,nf]\/k∈([]:List Nat)) w5:=⟨fun k=>Iff.rfl,(q5.block _ (by omega)).trans h4.2.2.1,(q5.block _ (by omega)).trans h4.2.2.2.1,(q5.block _ (by omega)).trans h4.2.2.2.2.1,fun j q hj=>by simp at hj⟩
 have TSO:∀ (Wz:World) (D:Nat),TxF w0 F Wz t d s n E->Frm (fun k=>(k∈[n0,n0+1,nf]\/k∈([]:List Nat))\/GN w0 F t (nb+1) (nb+2) (nb+3) nb k) w5 Wz->w5.heap.size<=D->Wz.heap[D]?=some (.deferred (some []))->TxS w0 (D::([n0,n0+1,nf]++R)) Wz t d s n E/\KeptT R t w Wz:=fun Wz D hV hfr hDz hdef=>
  tso hF.2.2.2.1 hF.2.2.2.2 hF.2.1 (fun k hk=>by rw[hn];exact hnF' k hk) q5w (fun k hk=>by
   simp only[List.mem_cons,List.not_mem_nil,or_false] at hk;rw[s5];omega) (fun k hk=>by cases hk) hV hfr (fun k hk=>by
   unfold GN at hk
   rcases hk with hk|hk|hk|hk|hk|hk|hk
   ·exact .inl hk
   ·exact .inr (.inl hk)
   all_goals first|exact .inr (.inr (.inl hk))|exact .inr (.inr (.inr (by omega)))) hDz (zl hdef)
 refine(wpIn_wide (n:=0)).1 (tD rfl (enters_of Tryz.func91 (by kernel_rfl) rfl) hit (fun Wz lz o hz hv=>?_) (fun k hk=>?_) (by intro _;rfl) (fun k=>k∈[n0,n0+1,nf]\/k∈([]:List Nat)) (fun k hk hg=>?_) (NmI n0 nf f os) (fun c pre D Wz=>c=.ret/\NmX n0 nf f os pre D Wz) NmI.on (fun c s D A B hh ho=>⟨hh.1,NmX.on s D A B hh.2 ho⟩) NmI.lt (fun c s D A hh=>NmX.lt s D A hh.2) i5 ?_ ?_ ?_)
 ·exact hv.frm (cV Wz lz o) fun k hk=>by subst hk;exact⟨fun e=>by have:=lF.1 _ e;omega,by have:=lF.2.1;omega,by have:=hT5.from.size;omega⟩
 ·unfold GN at hk
  rcases hk with hk|hk|hk|hk|hk|hk|hk
  ·exact lF.1 _ hk
  ·have:=lF.2.1;omega
  all_goals (have:=hT5.from.size;omega)
 ·simp only[List.mem_cons,List.not_mem_nil,or_false] at hk
  unfold GN at hg;have h5:=hnF' k
  rcases hg with hg|hg|hg|hg|hg|hg|hg
  ·have:=h5 hg;omega
  all_goals omega
 ·intro l' pre x D Wz hpre hI hD hz hnl hll
  obtain⟨xk,xv⟩:=x;obtain⟨m,hmm⟩:∃ m,pre.length=m:=⟨_,rfl⟩
  have hat:(mD 0 os)[m]?=some (xk,xv):=by
   obtain⟨r,hr⟩:=hpre;rw[<-hr,List.append_assoc,List.getElem?_append_right (by omega),hmm,Nat.sub_self]
   rfl
  rw[rZ,Nat.zero_add] at hat
  obtain⟨q,hq⟩:∃ q,os[m]?=some q:=by
   cases hq:os[m]? with
   | none=>rw[hq] at hat;cases hat
   | some q=>exact⟨q,rfl⟩
  rw[hq] at hat;have hat':=Option.some.inj hat;obtain⟨rfl,rfl⟩:=Prod.mk.inj hat';have ho:=HOS.2 m q hq;have hid:=pS ho;have e0:spB (aC 3 0 ((m:Int)+1))=(m:Int)+1:=(lL (k3 (by omega) (by omega))).2.2;obtain⟨y,hy⟩:∃ y:Int,(m:Int)+1=y:=⟨_,rfl⟩
  obtain⟨xs,hxs⟩:∃ xs,fB q=xs:=⟨_,rfl⟩
  rw[hy] at e0 ho hid;have ID:=Hd (fun w=>uK y true w (by unfold inB;simp;omega));have TA:=Hd (fun w=>by have:=vQ y q w ho;rw[hxs] at this;exact this);have HQ:=Hd (And.intro hq (And.intro hy hmm));unfold aB7;simp only[hy,e0,hxs];clear hat hat' hq ho hid e0 hy hxs hmm
  gi_wp2_with fail
  refine⟨Br,fun Wb hfb hIb=>?_⟩;have HI:=Hd hIb;clear hIb hfb
  gi_wp2_with fail
  refine⟨trivial,rfl,?_⟩;refine(CallsIn.inRound l' (callsIn_wide.2 (ID _))).mono ?_;rintro e w8 ⟨rfl,hw8⟩;have HW8:=Hd hw8;clear hw8
  gi_wp2_with fail
  refine⟨trivial,rfl,?_⟩;refine(CallsIn.inRound l' (callsIn_wide.2 (TA _))).mono ?_;rintro e w9 ⟨rfl,b9⟩;obtain⟨bx,hbx⟩:∃ b,w9.heap.size=b:=⟨_,rfl⟩
  have ma:(w9.alloc (.cells #[.int .i64 y,.string q.nm,q.li,q.ha] 49)).heap[bx]?=some (.cells #[.int .i64 y,.string q.nm,q.li,q.ha] 49):=by rw[<-hbx];exact han w9 _
  have ob:Below Wb.heap.size Wb (w9.alloc (.cells #[.int .i64 y,.string q.nm,q.li,q.ha] 49)):=by
   have hx:=HW8.o;subst hx;exact b9.trans ((aB w9 _).mono b9.size)
  have I9:=NmI.on _ _ _ _ HI (.of_frm (G:=fun _=>False) (Frm.of_below ob) fun _ _ h=>h);have HI9:=Hd I9;have HOB:=Hd ob;obtain⟨⟨u0,u1,u2,u3⟩,_⟩:=eO ma;obtain⟨i1,i2,i3,i6,i7⟩:=I9;have kf:=(aE i6).1;rw[hbx] at *;clear b9 ma ob i1 i6 i7
  by_cases hqf:q.nm=f
  ·have hqe:(q.nm.toList==f.toList)=true:=by rw[hqf];simp
   obtain⟨⟨d0,d1,d2,d3⟩,g0,g1,g2,g3⟩:=eO i2;obtain⟨c1,g9⟩:=aE i3;obtain⟨wA,hwA⟩:∃ x,w9.alloc (.cells #[.int .i64 y,.string q.nm,q.li,q.ha] 49)=x:=⟨_,rfl⟩
   have RX:Hid (∃ D':Nat->Prop,Own1 D Wb D' ((stW (w9.alloc (.cells #[.int .i64 y,.string q.nm,q.li,q.ha] 49)) n0 (.int .i64 y) (.string q.nm) (.int .i64 q.li) (.int .i64 q.ha)).setCell ⟨n0+1,0,none⟩ (.int .i64 0))/\∀ lz:List Ent,NmX n0 nf f os lz D' ((stW (w9.alloc (.cells #[.int .i64 y,.string q.nm,q.li,q.ha] 49)) n0 (.int .i64 y) (.string q.nm) (.int .i64 q.li) (.int .i64 q.ha)).setCell ⟨n0+1,0,none⟩ (.int .i64 0))):=Hd (by
    obtain⟨i1,i2,i3,i6,i7⟩:=HI9.o;obtain⟨n1,n2⟩:=OU i2 (.int .i64 y) (.string q.nm) (.int .i64 q.li) (.int .i64 q.ha);have lt:∀ {k:Nat} {o:Obj},(w9.alloc (.cells #[.int .i64 y,.string q.nm,q.li,q.ha] 49)).heap[k]?=some o->k<(w9.alloc (.cells #[.int .i64 y,.string q.nm,q.li,q.ha] 49)).heap.size:=fun h=>(zl h)
    refine⟨D,⟨((Frm.of_below (F:=fun _=>False) HOB.o).mono fun _ h=>h.elim).trans ((Frm.mono (G:=D) n2 fun k hk=>by rw[show k=n0 from hk];exact(i1 _).2 (by simp)).setCell ⟨n0+1,0,none⟩ _ (.inl ((i1 _).2 (by simp)))) (fun k hk=>.inl hk),fun k hk=>.inl hk⟩,fun lz=>⟨i1,m,q,?_,?_,?_,HQ.1,hqf,fun j r hj hr=>i7 j r (by rw[HQ.2.2];exact hj) hr⟩⟩
    ·rw[heap_setCell_other _ _ _ _ (by show n0≠n0+1;omega),HQ.2.1]
     exact n1
    ·rw[hss _ _ 0 _ _ _ ((n2.block _ (lt i3) (by omega)).trans i3)]
     rfl
    ·have hne:nf≠n0+1/\nf≠n0:=by have:=H4.2.2.2.2.2;omega
     rw[heap_setCell_other _ _ _ _ (by show nf≠n0+1;exact hne.1)];exact(n2.block _ (lt i6) hne.2).trans i6)
   unfold stW at RX;clear hqf hwA i2 i3
   gi_wp2_with fail
   exact(let ⟨D9,k1,k2⟩:=RX.o;⟨D9,k1,rfl,k2 _⟩)
  ·have hqe:(q.nm.toList==f.toList)=false:=by rw[Lib.bytes_beq_false_iff];exact hqf
   have HQF:=Hd hqf;clear hqf i2 i3
   gi_wp2_with fail
   refine⟨D,⟨(Frm.of_below (F:=fun _=>False) HOB.o).mono fun _ h=>h.elim,fun k hk=>.inl hk⟩,HI9.1,HI9.2.1,HI9.2.2.1,HI9.2.2.2.1,fun j r hj hr=>?_⟩;rw[List.length_append,List.length_singleton,HQ.2.2] at hj
   by_cases hjm:j<m
   ·exact HI9.2.2.2.2 j r (by rw[HQ.2.2];exact hjm) hr
   ·have e:j=m:=by omega
    subst e;rw[HQ.1] at hr;injection hr with hr;subst hr;exact HQF.o
 ·intro D C' Wz hDz hI hV hfr hC' hnD hdef
  obtain⟨j1,j2,j3,j6,j7⟩:=hI;obtain⟨T0,K0⟩:=TSO Wz D hV hfr hDz hdef;rw[BF] at j7
  have hv:id=0/\p=⟨⟨#[]⟩,0,0⟩/\e=3:=by
   rcases HV.o with⟨i,g1,_,g3,_⟩|⟨_,g⟩
   ·exact absurd g3 (j7 i p (List.getElem?_eq_some_iff.1 g1).1 g1)
   ·exact g
  obtain⟨rfl,rfl,rfl⟩:=hv
  have hDn:n0≠D/\n0+1≠D/\w0.heap.size<=D/\w0.heap.size<=n0/\D≠t/\n0≠t/\n0+1≠t:=by
   have:=q5.size;omega
  have hRD:∀ k∈R,k≠n0/\k≠n0+1/\k≠D:=fun k hk=>by have:=hF.2.2.2.1.1 k hk;have:=q5.size;omega
  obtain⟨⟨c0,c1,c2,c3⟩,g0,g1,g2,g3⟩:=eO j2;obtain⟨c9,g9⟩:=aE j3;obtain⟨n1,n2⟩:=OU j2 (.int .i64 0) (.string ⟨#[]⟩) (.int .i64 0) (.int .i64 0);obtain⟨y6,hy6⟩:∃ y6,(stW Wz n0 (.int .i64 0) (.string ⟨#[]⟩) (.int .i64 0) (.int .i64 0)).setCell ⟨n0+1,0,none⟩ (.int .i64 3)=y6:=⟨_,rfl⟩
  have f6:Frm (fun k=>k=n0\/k=n0+1) Wz y6:=by rw[<-hy6];exact(Frm.mono (G:=fun k=>k=n0\/k=n0+1) n2 fun k hk=>.inl hk).setCell ⟨n0+1,0,none⟩ _ (.inl (.inr rfl))
  have s0:y6.heap[n0]?=some (.cells #[(0:Int),.string ⟨#[]⟩,(0:Int),(0:Int)] 49):=by
   rw[<-hy6,heap_setCell_other _ _ _ _ (by show n0≠n0+1;omega)];exact n1
  have s1:y6.heap[n0+1]?=some (.cells #[(3:Int)] 26):=by
   rw[<-hy6,hss _ _ 0 _ _ _ ((n2.block _ (zl j3) (by omega)).trans j3)]
   rfl
  have T6:TxS w0 (D::([n0,n0+1,nf]++R)) y6 t d s n E:=by
   rw[<-hy6];exact(T0.turn (k:=n0) (by simp) (by omega) (by omega) n2).turn (k:=n0+1) (by simp) (by omega) (by omega) ((Frm.refl (fun k=>k=n0+1) _).setCell _ _ (.inl rfl))
  have d6:=(f6.block D (zl hdef) (by omega)).trans hdef;have HMK:Hid (Marks y6 [D]):=Hd ((Marks.nil y6).cons (by simp) d6)
  have FIN:Hid (∀ W',Frm (fun k=>k∈[D]) y6 W'->W'.heap[n0]?=some (.cells #[(0:Int),.string ⟨#[]⟩,(0:Int),(0:Int)] 49)/\W'.cell? ⟨n0+1,0,none⟩=some (.int .i64 3)/\TxS w0 R W' t d s n E/\KeptT R t w W'):=Hd fun W' hm=>by
   have lt6:=T6.lt.1;refine⟨(hm.block n0 (lt6 n0 (by simp)) (by simpa using hDn.1)).trans s0,(aE ((hm.block (n0+1) (lt6 (n0+1) (by simp)) (by simpa using hDn.2.1)).trans s1)).1,?_,fun k hk hn=>?_⟩
   ·exact(T6.turn (k:=D) (by simp) (by omega) (by omega) (hm.mono fun k hk=>by simpa using hk)).sub fun k hk=>by simp[hk]
   ·have hy:=hRD k hk
    exact(hm.block k (lt6 k (by simp[hk])) (by simpa using hy.2.2)).trans ((f6.block k (T0.lt.1 k (by simp[hk])) (by omega)).trans (K0 k hk hn))
  have HY6:=Hd hy6;unfold stW at HY6;clear hit hfr hC' hnD hdef j1 j2 j3 j6 j7 hV i5 TSO T0 K0 n1 n2 f6 s0 s1 T6 d6 hy6 hDn hRD hDz hF hnF' h4 q5w lF htn f0 hnb' hn hnb hT5 m5 q5 s5;go_wp2_with fail;rw[HY6.o];refine jG [D] _ HMK.o fun W' hm=>?_
  obtain⟨u0,u1,u2,u3⟩:=FIN W' hm;exact⟨_,lU (fn:=Tryz.f75) rfl _ W' n0 49 _ (0,0) _ _ _ rfl u0 Tryz.underlying49 rfl fI rfl (BM rfl Tryz.underlying26 u1),rfl,u2,u3⟩
 ·rintro D c pre C' Wz hDz hpre ⟨rfl,j1,m,q,j2,j3,j6,j7,j8,j9⟩ hV hfr hC' hnD hdef
  obtain⟨T0,K0⟩:=TSO Wz D hV hfr hDz hdef
  have hv:id=(m:Int)+1/\p=q/\e=0:=by
   rcases HV.o with⟨i,g1,g2,g3,g4,g5⟩|⟨g,_⟩
   ·have him:i=m:=by
     rcases Nat.lt_trichotomy i m with hx|hx|hx
     ·exact absurd g3 (j9 i p hx g1)
     ·exact hx
     ·exact absurd j8 (g5 m q hx j7)
    subst him;rw[g1] at j7;exact⟨g2,Option.some.inj j7,g4⟩
   ·exact absurd j8 (g m q j7)
  obtain⟨rfl,rfl,rfl⟩:=hv
  have hDn:n0≠D/\n0+1≠D/\w0.heap.size<=D/\w0.heap.size<=n0/\D≠t/\n0≠t/\n0+1≠t:=by
   have:=q5.size;omega
  have hRD:∀ k∈R,k≠n0/\k≠n0+1/\k≠D:=fun k hk=>by have:=hF.2.2.2.1.1 k hk;have:=q5.size;omega
  refine wpIn_wide.2 ?_;have HMK:Hid (Marks Wz [D]):=Hd ((Marks.nil Wz).cons (by simp) hdef)
  have FIN:Hid (∀ W',Frm (fun k=>k∈[D]) Wz W'->W'.heap[n0]?=some (.cells #[.int .i64 ((m:Int)+1),p.nm,p.li,p.ha] 49)/\W'.cell? ⟨n0+1,0,none⟩=some (.int .i64 0)/\TxS w0 R W' t d s n E/\KeptT R t w W'):=Hd fun W' hm=>by
   have lt6:=T0.lt.1;refine⟨(hm.block n0 (lt6 n0 (by simp)) (by simpa using hDn.1)).trans j2,(aE ((hm.block (n0+1) (lt6 (n0+1) (by simp)) (by simpa using hDn.2.1)).trans j3)).1,?_,fun k hk hn=>?_⟩
   ·exact(T0.turn (k:=D) (by simp) (by omega) (by omega) (hm.mono fun k hk=>by simpa using hk)).sub fun k hk=>by simp[hk]
   ·have hy:=hRD k hk
    exact(hm.block k (lt6 k (by simp[hk])) (by simpa using hy.2.2)).trans (K0 k hk hn)
  clear hit hfr hC' hnD hdef j1 j2 j3 j6 j7 j8 j9 hV i5 TSO T0 K0 hDn hRD hDz hF hnF' h4 q5w lF htn f0 hnb' hn hnb hT5 m5 q5 s5 hpre;go_wp2_with fail;refine jG [D] _ HMK.o fun W' hm=>?_
  obtain⟨u0,u1,u2,u3⟩:=FIN W' hm;exact⟨_,lU (fn:=Tryz.f75) rfl _ W' n0 49 _ (0,0) _ _ _ rfl u0 Tryz.underlying49 rfl fI rfl (BM rfl Tryz.underlying26 u1),rfl,u2,u3⟩
end
theorem tsoX {w0 w W4 Wz:World}{F G:Nat->Prop}{R Xb Cb Rb:List Nat}{t d s n D:Nat}{E:List Ent}
  (hl:(∀ k∈R,k<w.heap.size)/\t<w.heap.size)(f0:Below w0.heap.size w0 w)(hnF:∀ k∈R,¬ F k)(hFl:∀ k,F k->k<w.heap.size)
  (q:Below w.heap.size w W4)(hCb:∀ k∈Cb,w.heap.size<=k/\k<W4.heap.size)(hX:∀ k∈Xb,w.heap.size<=k/\k<Wz.heap.size)(hRb:∀ k∈Rb,Wz.heap[k]?=w.heap[k]?)
  (hV:TxF w0 F Wz t d s n E)(hfr:Frm (fun k=>(k∈Cb\/k∈Rb)\/G k) W4 Wz)(hG:∀ k,G k->F k\/k=t\/k<w0.heap.size\/w.heap.size<=k)
  (hD:W4.heap.size<=D)(hdef:D<Wz.heap.size):TxS w0 (D::(Xb++(Cb++R))) Wz t d s n E/\KeptT R t w Wz:=by
 obtain⟨h1,h2⟩:=tso hl f0 hnF hFl q hCb hRb hV hfr hG hD hdef;refine⟨hV.hide fun k hk=>?_,h2⟩;obtain⟨F',hF',hn',_⟩:=h1.said;have hz:=hfr.size;have qs:=q.size;simp only[List.mem_cons,List.mem_append] at hk
 rcases hk with rfl|hk|hk|hk
 ·exact⟨hdef,fun e=>by have:=hFl _ e;omega⟩
 ·exact⟨(hX k hk).2,fun e=>by have:=hFl _ e;have:=(hX k hk).1;omega⟩
 ·have:=hCb k hk
  exact⟨by omega,fun e=>by have:=hFl _ e;omega⟩
 ·exact⟨by have:=hl.1 k hk;omega,hnF k hk⟩
theorem xP {w:World}{B:Nat}{e:TypeId}{z:Nat}{v:Value}{n:Nat}{xs:List Value}(h:w.ownsRow B e z v n xs){a:Addr}(ha:v.ownBlock≠some a.block)(u:Value):(w.setCell a u).ownsRow B e z v n xs:=
 lJ h fun k hk=>Below.heap_setCell _ _ _ _ fun e=>ha (by rw[hk,e])
def ZrI (lb:Nat)(Y:List (Nat × Obj))(L:List Int)(D:Nat->Prop)(W:World):Prop:=
 ∃ v,W.heap[lb]?=some (.cells #[v] 36)/\(∀ p∈Y,W.heap[p.1]?=some p.2)/\W.ownsRow (lb+1) 3 1 v L.length (L.map fun(x:Int)=>Value.int .i64 x)/\∀ k,D k ↔ k=lb\/k∈Y.map (·.1)\/v.ownBlock=some k
theorem ZrI.on {lb:Nat}{Y:List (Nat × Obj)}{L:List Int}{D:Nat->Prop}{A B:World}(h:ZrI lb Y L D A)(ho:OnC D A B):ZrI lb Y L D B:=by
 obtain⟨v,h1,h2,h3,h4⟩:=h;have lt:∀ {k:Nat} {o:Obj},A.heap[k]?=some o->k<A.heap.size:=fun h=>(zl h)
 exact⟨v,(ho.block _ (lt h1) ((h4 _).2 (.inl rfl))).trans h1,fun p hp=>(ho.block _ (lt (h2 p hp)) ((h4 _).2 (.inr (.inl (List.mem_map.2 ⟨p,hp,rfl⟩))))).trans (h2 p hp),lJ h3 fun k hk=>ho.block k (h3.lt k hk).2 ((h4 k).2 (.inr (.inr hk))),h4⟩
theorem ZrI.lt {lb:Nat}{Y:List (Nat × Obj)}{L:List Int}{D:Nat->Prop}{A:World}(h:ZrI lb Y L D A){k:Nat}(hk:D k):k<A.heap.size:=by
 obtain⟨v,h1,h2,h3,h4⟩:=h
 rcases(h4 k).1 hk with rfl|h5|h5
 ·exact(zl h1)
 ·obtain⟨p,hp,rfl⟩:=List.mem_map.1 h5
  exact(zl (h2 p hp))
 ·exact(h3.lt k h5).2
theorem XY:∃ i z,Tryz.prog.info? 3=some i/\i.zero=some z/\i.size=1/\i.bytes=8/\z.cells.size=1:=by
 have h:(Tryz.prog.info? 3).bind (fun i=>i.zero.map fun z=>(i.size,i.bytes,z.cells.size))=some (1,8,1):=by kernel_rfl
 cases hq:Tryz.prog.info? 3 with
 | none=>rw[hq] at h;cases h
 | some i=>
  rw[hq] at h
  cases hz:i.zero with
  | none=>simp[hz] at h
  | some z=>simp[hz] at h;exact⟨i,z,rfl,hz,h.1,h.2.1,h.2.2⟩
theorem ZrI.more {lb:Nat}{Y:List (Nat × Obj)}{L:List Int}{D:Nat->Prop}{Wb w9 wf:World}{v v':Value}{y:Int}{o:Obj}(hI:ZrI lb Y L D Wb)(hv:Wb.heap[lb]?=some (.cells #[v] 36))(hY:∀ p∈Y,p.1<lb)
  (hown:w9.ownsRow (lb+1) 3 1 v' (L.length+1) ((L.map fun(x:Int)=>Value.int .i64 x)++[.int .i64 y]))(hgrow:(Wb.alloc o).grownBy w9 v.ownBlock)(hat:v'.ownBlock=v.ownBlock\/v'.ownBlock=some (Wb.heap.size+1))(hf:w9.setCell ⟨lb,0,none⟩ v'=wf) :
  w9.heap[lb]?=some (.cells #[v] 36)/\(∀ p∈Y,w9.heap[p.1]?=some p.2)/\(∀ p∈Y,wf.heap[p.1]?=some p.2)/\wf.heap[lb]?=some (.cells #[v'] 36)/\Own1 D Wb (fun k=>k=lb\/k∈Y.map (·.1)\/v'.ownBlock=some k) wf/\ZrI lb Y (L++[y]) (fun k=>k=lb\/k∈Y.map (·.1)\/v'.ownBlock=some k) wf:=by
 have hlt:=fun k hk=>ZrI.lt hI (k:=k) hk
 obtain⟨v0,h1,h2,h3,h4⟩:=hI
 have e0:v0=v:=by
  rw[hv] at h1
  simpa using h1.symm
 subst e0;have olt:∀ k,v0.ownBlock=some k->lb+1<=k/\k<Wb.heap.size:=fun k hk=>h3.lt k hk
 have ks:∀ k,k<lb+1->k<Wb.heap.size->w9.heap[k]?=Wb.heap[k]?:=fun k g1 g2=>(hgrow.block k (by simp;omega) (fun e=>by have:=olt k e.symm;omega)).trans (hao _ _ g2)
 have a1:=(ks lb (by omega) (hlt lb ((h4 lb).2 (.inl rfl)))).trans h1;have a2:∀ p∈Y,w9.heap[p.1]?=some p.2:=fun p hp=>(ks p.1 (by have:=hY p hp;omega) (hlt p.1 ((h4 _).2 (.inr (.inl (List.mem_map.2 ⟨p,hp,rfl⟩)))))).trans (h2 p hp)
 have og:=fun k hk=>World.ownsRow.lt hown k hk
 have a3:∀ p∈Y,wf.heap[p.1]?=some p.2:=fun p hp=>by
  rw[<-hf,Below.heap_setCell _ _ _ _ (by show p.1≠lb;have:=hY p hp;omega)];exact a2 p hp
 have a4:wf.heap[lb]?=some (.cells #[v'] 36):=by rw[<-hf,hss _ _ 0 _ _ _ a1];rfl
 refine⟨a1,a2,a3,a4,⟨?_,fun k hk=>?_⟩,v',a4,a3,?_,fun k=>Iff.rfl⟩
 ·rw[<-hf]
  exact(((Frm.refl _ Wb).alloc _).grown hgrow fun k hk=>.inl ((h4 k).2 (.inr (.inr hk)))).setCell ⟨lb,0,none⟩ _ (.inl ((h4 _).2 (.inl rfl)))
 ·rcases hk with rfl|hk|hk
  ·exact .inl ((h4 _).2 (.inl rfl))
  ·exact .inl ((h4 _).2 (.inr (.inl hk)))
  ·rcases hat with g1|g1
   ·exact .inl ((h4 k).2 (.inr (.inr (g1 ▸ hk))))
   ·rw[g1] at hk;injection hk with hk;exact .inr (by omega)
 ·rw[<-hf,List.length_append,List.map_append]
  exact xP hown (fun e=>by have h9:lb+1<=lb:=(og _ e).1;omega) _
theorem ZrI.done {lb:Nat}{Y:List (Nat × Obj)}{L:List Int}{C':Nat->Prop}{w0 w W4 Wz W':World}{F G:Nat->Prop}{R Rb:List Nat}{t d s n D:Nat}{E:List Ent}(hI:ZrI lb Y L C' Wz)(hnD:¬ C' D)
  (hl:(∀ k∈R,k<w.heap.size)/\t<w.heap.size)(f0:Below w0.heap.size w0 w)(hnF:∀ k∈R,¬ F k)(hFl:∀ k,F k->k<w.heap.size)
  (q:Below w.heap.size w W4)(hlb:w.heap.size<=lb/\lb<W4.heap.size)(hRb:∀ k∈Rb,Wz.heap[k]?=w.heap[k]?)
  (hV:TxF w0 F Wz t d s n E)(hfr:Frm (fun k=>(k∈[lb]\/k∈Rb)\/G k) W4 Wz)(hG:∀ k,G k->F k\/k=t\/k<w0.heap.size\/w.heap.size<=k)
  (hD:W4.heap.size<=D)(hdef:D<Wz.heap.size)(hm:Frm (fun k=>k∈[D]) Wz W'){v:Value}(hv:Wz.heap[lb]?=some (.cells #[v] 36)) :
  RowZ W' v L/\FreshB w0 R t v/\TxS w0 (v.ownBlock.toList++R) W' t d s n E/\KeptT R t w W':=by
 obtain⟨v0,h1,h2,h3,h4⟩:=hI
 have e0:v0=v:=by
  rw[hv] at h1
  simpa using h1.symm
 subst e0;have olt:∀ k,v0.ownBlock=some k->lb+1<=k/\k<Wz.heap.size:=fun k hk=>h3.lt k hk
 obtain⟨T0,K0⟩:=tsoX (Xb:=v0.ownBlock.toList) (Cb:=[lb]) (Rb:=Rb) hl f0 hnF hFl q (fun k hk=>by rw[List.mem_singleton] at hk;subst hk;exact hlb) (fun k hk=>by have:=olt k (by simpa using hk);omega) hRb hV hfr hG hD hdef;have f0s:=f0.size;have lt6:=T0.lt.1;have hDt:D≠t:=by have:=q.size;omega
 refine⟨?_,fun k hk=>?_,?_,fun k hk hn=>?_⟩
 ·have h5:W'.ownsRow (lb+1) 3 1 v0 L.length (L.map fun(x:Int)=>Value.int .i64 x):=lJ h3 fun k hk=>hm.block k (olt k hk).2 fun e=>hnD (by rw[List.mem_singleton] at e;rw[<-e];exact(h4 k).2 (.inr (.inr hk)))
  exact⟨h5.1,h5.2.imp id fun⟨g,cap,cur,hv,_,r⟩=>⟨g,cap,cur,hv,Nat.zero_le _,r⟩⟩
 ·have:=olt k hk
  exact⟨fun hx=>by have:=hl.1 k hx;omega,by omega,by omega⟩
 ·exact(T0.turn (k:=D) (by simp) hDt (by have:=q.size;omega) (hm.mono fun k hk=>by simpa using hk)).sub fun k hk=>by
   rcases List.mem_append.1 hk with hk|hk
   ·exact List.mem_cons_of_mem _ (List.mem_append_left _ hk)
   ·exact List.mem_cons_of_mem _ (List.mem_append_right _ (List.mem_append_right _ hk))
 ·refine(hm.block k (lt6 k (by simp[hk])) (fun e=>?_)).trans (K0 k hk hn)
  rw[List.mem_singleton] at e;have:=hl.1 k hk;have:=q.size;omega
section
attribute [local go_sem] Oper.semAt_some
theorem XQ {w0 w:World}{R:List Nat}{t d s n:Nat}{E:List Ent}{bm bi bt bf:Nat}{mo id fr:Int}{fm:Int}(h:TxS w0 R w t d s n E)(hbm:w.heap[bm]?=some (.cells #[mo] 3))(hbi:w.heap[bi]?=some (.cells #[id] 3))(hbt:w.heap[bt]?=some (.cells #[t] 24))(hbf:w.heap[bf]?=some (.cells #[fr] 3))(hm:(bm∈R/\bm≠t/\w0.heap.size<=bm)/\(bi∈R/\bi≠t/\w0.heap.size<=bi)/\(bt∈R/\bt≠t/\w0.heap.size<=bt)/\(bf∈R/\bf≠t/\w0.heap.size<=bf))(hE:E.length<=600)(hK:jS E)(hmo:1<=mo)(hid:1<=id/\id<=16777215)(hfr:max fr 0=fm)(hfm:0<=fm/\fm<=4294967295) :
  () 53 #[bm,bi,bt,bf] w fun e' w'=>∃ v,e'=.returned (.tuple #[v,(0:Int)])/\RowZ w' v ((((bD (aC 2 id fm) E).takeWhile fun e=>dI e.1 2 id).map fun(e:Ent)=>spB e.1).take mo.toNat)/\FreshB w0 R t v/\TxS w0 (v.ownBlock.toList++R) w' t d s n E/\KeptT R t w w':=by
 obtain⟨lb,hlb⟩:∃ n0,w.heap.size=n0:=⟨_,rfl⟩
 obtain⟨x1,hx1⟩:∃ x,w.alloc (.cells #[.slice none 0 0] 36)=x:=⟨_,rfl⟩
 obtain⟨s1,m1,b1⟩:=jP hx1 hlb;have hl:=h.lt;obtain⟨F,hF,hnF,hFl⟩:=h.said;have lF3:=hF.lt;have HF:=Hd (And.intro hF (And.intro hnF (And.intro lF3 (And.intro hl h.from))));have HB:=Hd (And.intro s1 (And.intro m1 b1));have HX:=Hd hx1;have HN:=Hd hlb;have HM:=Hd hm;have HEK:=Hd (And.intro hE (And.intro hK hmo));obtain⟨Ys,hYs⟩:∃ Ys,((bD (aC 2 id fm) E).takeWhile fun e=>dI e.1 2 id)=Ys:=⟨_,rfl⟩
 rw[hYs];obtain⟨RS,hRS⟩:∃ RS,(Ys.map fun(e:Ent)=>spB e.1).take mo.toNat=RS:=⟨_,rfl⟩
 rw[hRS];have HRS:=Hd hRS;have HYS:=Hd hYs;clear hRS hYs;have HBX:=Hd (And.intro hbm (And.intro hbt (And.intro ((b1.block bt (hl.1 bt hm.2.2.1.1)).trans hbt) (And.intro ((b1.block bi (hl.1 bi hm.2.1.1)).trans hbi) ((b1.block bf (hl.1 bf hm.2.2.2.1)).trans hbf)))));have ID:=Hd (fun w=>uK id true w (by unfold inB;simp;omega));have HFM:=Hd (And.intro hid hfm);have d0:=(aE hbm).1;have d1:=(aE hbi).1;have e0:¬ mo<1:=by omega
 clear h hbm hbi hbt hbf hm hE hK hmo hx1 s1 m1 b1 hl hF hnF hFl lF3 hid hfm;refine(callsIn_wide (n:=0)).1 (callsIn_of_wp_marks (F:=Fence.wide) (n:=0) Tryz.func53 rfl trivial (wpIn_wide.2 ?_) rfl);simp only[Tryz.ntmps53,List.size_toArray,List.length_cons,List.length_nil,Nat.reduceAdd,Nat.reduceSub,Array.replicate_succ,Array.replicate_zero,List.push_toArray,List.append_toArray,List.nil_append,List.cons_append];go_wp2_with fail;refine(ID _).mono ?_;rintro e w1 ⟨rfl,rfl⟩;go_upto_region 4 with fail
 rw[HX.o];try rw[hlb]
 clear hlb d0 d1;have d0:=(aE HBX.2.2.1).1;have d1:=(aE HBX.2.2.2.1).1;have d2:=(aE HBX.2.2.2.2).1;go_wp2_with fail;refine(wI _ t 2 id fm).mono ?_;rintro e w5 ⟨rfl,m5,q5,s5⟩;clear d0 d1 d2;go_wp2_with fail;obtain⟨nb,hnb⟩:∃ n,x1.heap.size=n:=⟨_,rfl⟩
 have hnb':lb+1=nb:=by rw[<-hnb];exact HB.1.symm
 rw[hnb] at m5 q5 s5 |-;have hF:=HF.o;have hn:=HN.o;have q5w:Below w.heap.size w w5:=HB.2.2.trans (q5.mono (by omega));have hT5:=hF.1.below q5w;have f0:=hF.2.2.2.2.size;have lF:=hT5.lt;have hnF':∀ k,F k->k<lb:=fun k hk=>by have:=hF.2.2.1.1 k hk;omega
 have htn:=hF.2.2.2.1.2;have hRl:=hF.2.2.2.1.1;have hit:=wH hT5 HEK.1 HEK.2.1.1 HEK.2.1.2 m5 ⟨⟨fun e=>by have:=hnF' _ e;omega,by omega,by omega⟩,⟨fun e=>by have:=hnF' _ e;omega,by omega,by omega⟩⟩ (cW.2 ⟨by decide,by have:=HFM.o;omega,HFM.2⟩:bM 2 id fm=true) (rfl:aC 2 id fm=aC 2 id fm);have hYl:(((bD (aC 2 id fm) E).takeWhile fun e=>dI e.1 2 id)).length<=600:=Nat.le_trans (List.takeWhile_sublist _).length_le (Nat.le_trans (vT _ _) HEK.1)
 have HYE:Hid (∀ e∈Ys,0<=e.1/\e.1<=18446744073709551615):=Hd fun e he=>by
  rw[<-HYS.o] at he;exact HEK.2.1.2 e (List.mem_filter.1 ((List.takeWhile_sublist _).subset he)).1
 rw[HYS.o] at hit hYl;have HYL:=Hd hYl;clear hYl
 have hYb:∀ p∈([(bm,.cells #[mo] 3)]:List (Nat × Obj)),p.1<lb:=fun p hp=>by
  simp only[List.mem_cons,List.not_mem_nil,or_false] at hp
  rcases hp with rfl
  all_goals (first|(show bm<lb;have:=hRl bm HM.1.1;omega))
 have i5:ZrI lb [(bm,.cells #[mo] 3)] (([]:List Ent).map fun(e:Ent)=>spB e.1) (fun k=>k∈[lb]\/k∈[bm]) w5:=by
  refine⟨.slice none 0 0,(q5.block _ (by omega)).trans HB.2.1,fun p hp=>?_,World.ownsRow_nil _ _ _ _,fun k=>?_⟩
  ·have h8:=hYb p hp
   simp only[List.mem_cons,List.not_mem_nil,or_false] at hp
   rcases hp with rfl
   all_goals (first|exact(q5w.block bm (hRl bm HM.1.1)).trans HBX.1)
  ·simp only[List.mem_singleton,List.map_cons,List.map_nil,List.mem_cons,List.not_mem_nil,or_false,Value.ownBlock,reduceCtorEq]
 have DONE:∀ (D:Nat) (C':Nat->Prop) (Wz W':World) (L:List Int) (v:Value),w5.heap.size<=D->ZrI lb [(bm,.cells #[mo] 3)] L C' Wz->TxF w0 F Wz t d s n E->Frm (fun k=>(k∈[lb]\/k∈[bm])\/GN w0 F t (nb+1) (nb+2) (nb+3) nb k) w5 Wz->¬ C' D->Wz.heap[D]?=some (.deferred (some []))->Frm (fun k=>k∈[D]) Wz W'->Wz.heap[lb]?=some (.cells #[v] 36)->RowZ W' v L/\FreshB w0 R t v/\TxS w0 (v.ownBlock.toList++R) W' t d s n E/\KeptT R t w W':=fun D C' Wz W' L v hDz hI hV hfr hnD hdef hm hv=>by
  refine ZrI.done hI hnD hF.2.2.2.1 hF.2.2.2.2 hF.2.1 (fun k hk=>by rw[hn];exact hnF' k hk) q5w ⟨by omega,by rw[s5];omega⟩ (fun k hk=>?_) hV hfr (fun k hk=>?_) hDz (zl hdef) hm hv
  ·obtain⟨_,_,g2,_,_⟩:=hI
   simp only[List.mem_cons,List.not_mem_nil,or_false] at hk;have e9:=hk
   all_goals rw[e9]
   all_goals (first|exact(g2 (bm,.cells #[mo] 3) (by simp)).trans HBX.1.symm)
  ·unfold GN at hk
   rcases hk with hk|hk|hk|hk|hk|hk|hk
   ·exact .inl hk
   ·exact .inr (.inl hk)
   all_goals first|exact .inr (.inr (.inl hk))|exact .inr (.inr (.inr (by omega)))
 refine(wpIn_wide (n:=0)).1 (tD rfl (enters_of Tryz.func91 (by kernel_rfl) rfl) hit (fun Wz lz o hz hv=>?_) (fun k hk=>?_) (by intro _;rfl) (fun k=>k∈[lb]\/k∈[bm]) (fun k hk hg=>?_) (fun pre C W=>ZrI lb [(bm,.cells #[mo] 3)] (pre.map fun(e:Ent)=>spB e.1) C W/\(pre.length:Int)<mo) (fun c pre C W=>c=.exit 0/\∃ L,L=RS/\ZrI lb [(bm,.cells #[mo] 3)] L C W) (fun s D A B hh ho=>⟨hh.1.on ho,hh.2⟩) (fun c s D A B hh ho=>⟨hh.1,let ⟨L,e1,e2⟩:=hh.2;⟨L,e1,e2.on ho⟩⟩) (fun s D A hh k hk=>hh.1.lt hk) (fun c s D A hh k hk=>let ⟨L,_,e2⟩:=hh.2;e2.lt hk) ⟨i5,by have:=HEK.2.2;simp;omega⟩ ?_ ?_ ?_)
 ·exact hv.frm (cV Wz lz o) fun k hk=>by subst hk;exact⟨fun e=>by have:=lF.1 _ e;omega,by have:=lF.2.1;omega,by have:=hT5.from.size;omega⟩
 ·unfold GN at hk
  rcases hk with hk|hk|hk|hk|hk|hk|hk
  ·exact lF.1 _ hk
  ·have:=lF.2.1;omega
  all_goals (have:=hT5.from.size;omega)
 ·have h5:=hnF' k
  have h6:=hF.2.1 k;have hbm:=HM.1;have hbn:=HM.1;have hrm:=hRl bm hbm.1;have hrn:=hrm;simp only[List.mem_cons,List.not_mem_nil,or_false] at hk;unfold GN at hg
  rcases hk with rfl|rfl
  all_goals (rcases hg with hg|hg|hg|hg|hg|hg|hg)
  all_goals first|exact absurd hg (h6 hbm.1)|exact absurd hg (h6 hbn.1)|(have:=h5 hg;omega)|exact absurd hg hbm.2.1|exact absurd hg hbn.2.1|omega
 ·intro l' pre x D Wz hpre hI hD hz hnl hll
  have HNB:=Hd hnb';clear hnb';have hxm:x∈Ys:=hpre.subset (by simp);have hxk:=HYE x hxm;obtain⟨xk,xv⟩:=x
  have hlen:pre.length<=600:=by
   have h1:=hpre.length_le;have:=HYL.o;rw[List.length_append] at h1;omega
  have HLN:=Hd hlen;have HPR:=Hd hpre;obtain⟨y,hy⟩:∃ y:Int,spB xk=y:=⟨_,rfl⟩
  have HY:=Hd hy;unfold aB7;simp only[hy];clear hxm hxk hlen hpre hy
  gi_wp2_with fail
  refine⟨Br,fun Wb hfb hIb=>?_⟩;obtain⟨hIb,hlm⟩:=hIb;have HI0:=Hd hIb;have HLT:=Hd hlm;obtain⟨v,e1,e2,hown,hDi⟩:=hIb;have HLB:=Hd ((hDi lb).2 (.inl rfl));have HE2:=Hd e2;rw[List.length_map] at hown;obtain⟨va,vc,rfl,hv1,hv2⟩:=bP hown;obtain⟨ii,zz,hi,hz0,hz1,hz2,hz3⟩:=XY;obtain⟨cy,cyf⟩:=aE e1;have OWN:=Hd hown;have HB1:=Hd e1;clear hown e1 e2 hDi
  gi_wp2_with (gi_at_builtin;refine wpListIn_append_own_at _ rfl (.tmp 22) (.tmp 24) 36 rfl (lb+1) 3 ii zz 1 8 Tryz.underlying36 hi hz0 hz1 hz2 hz3 (by decide) _ _ _ rfl (OWN.alloc _) ⟨Wb.heap.size,0,none⟩ 1 1 [.int .i64 y] rfl rfl ?c1 ?c2 ?c3 ?c4 ?c5 ?_)
  case c1=>exact cell_one_new _ _ _
  case c2=>
   intro u hu;simp only[List.mem_cons,List.not_mem_nil,or_false] at hu;subst hu
   rfl
  case c3=>have:=HLN.o;unfold maxLen;omega
  case c4=>have:=HLN.o;omega
  case c5=>
   have h9:=ZrI.lt HI0 (HLB.o);simp;omega
  intro v' w9 hown' hgrow hnil hat;obtain⟨va',vc',rfl,_,_⟩:=bP hown';have FR:=Hd (ZrI.more (o:=_) HI0 HB1 hYb (by rw[List.length_map,List.map_map];exact hown') hgrow (by simpa using hat) rfl);obtain⟨a1,a2,a3,a4,_,_⟩:=FR.o;obtain⟨d1,d1f⟩:=aE a1;have d2:=(aE (a2 _ (by simp:(bm,Obj.cells #[mo] 3)∈([(bm,.cells #[mo] 3)]:List (Nat × Obj))))).1;have d3:=(aE (a3 _ (by simp:(bm,Obj.cells #[mo] 3)∈([(bm,.cells #[mo] 3)]:List (Nat × Obj))))).1;have d4:=(aE a4).1
  clear hown' hgrow hnil hat a1 a2 a3 a4 OWN HB1 hi hz0 hz1 hz2 hz3 hv1 hv2 hfb hlm
  by_cases hbr:((pre.length+1:Nat):Int)=mo
  ·have hbr2:(pre.length:Int)+1=mo:=by omega
   have hbr3:((pre.length:Int)+1==mo)=true:=beq_iff_eq.2 hbr2;have HBR:=Hd hbr;clear hbr
   gi_wp2_with fail
   obtain⟨_,_,_,_,f1,f2⟩:=FR.o
   have e9:(pre.map fun(e:Ent)=>spB e.1)++[y]=RS:=by
    rw[<-HRS.o];have hq:=List.prefix_iff_eq_take.1 (HPR.o);rw[<-List.map_take,show mo.toNat=pre.length+1 by have:=HBR.o;omega];rw[List.length_append,List.length_singleton] at hq;rw[<-hq,List.map_append,<-HY.o]
    rfl
   rw[e9] at f2
   first|exact⟨_,f1,rfl,_,rfl,f2⟩|exact⟨_,f1,rfl,f2⟩
  ·have hbr2:¬ (pre.length:Int)+1=mo:=by omega
   have hbr3:((pre.length:Int)+1==mo)=false:=beq_eq_false_iff_ne.2 hbr2;have HBR:=Hd hbr;clear hbr
   gi_wp2_with fail
   obtain⟨_,_,_,_,f1,f2⟩:=FR.o;refine⟨_,f1,?_,?_⟩
   ·rw[List.map_append]
    rw[<-HY.o] at f2;exact f2
   ·have:=HLT.o
    have:=HBR.o;rw[List.length_append,List.length_singleton];omega
 ·intro D C' Wz hDz hI hV hfr hC' hnD hdef
  obtain⟨hZ,hlm⟩:=hI
  have HLE:Hid ((Ys.map fun(e:Ent)=>spB e.1)=RS):=Hd (by
   rw[<-HRS.o,List.take_of_length_le];rw[List.length_map];omega)
  obtain⟨v,g1,g2,g3,g4⟩:=hZ;have HFN:=Hd (fun W' hm=>DONE D C' Wz W' _ v hDz ⟨v,g1,g2,g3,g4⟩ hV hfr hnD hdef hm g1);have c1:=(aE g1).1;have HMK:Hid (Marks Wz [D]):=Hd ((Marks.nil Wz).cons (by simp) hdef);obtain⟨va,vc,hva,_,_⟩:=bP g3;try rw[List.length_map] at hva
  subst hva;clear hit hfr hnD hdef hV i5 DONE hF hnF' q5w lF htn f0 hnb' hn hnb hT5 m5 q5 s5 hC' hDz hRl hYb g1 g2 g3 g4;go_wp2_with fail;refine jG [D] _ HMK.o fun W' hm=>⟨_,results_tmp2 (fn:=Tryz.f53) rfl _ _ _,?_⟩
  rw[<-HLE.o];exact⟨_,rfl,HFN W' hm⟩
 ·rintro D c pre C' Wz hDz hpre ⟨rfl,L,rfl,hZ⟩ hV hfr hC' hnD hdef
  obtain⟨v,g1,g2,g3,g4⟩:=hZ;have HFN:=Hd (fun W' hm=>DONE D C' Wz W' _ v hDz ⟨v,g1,g2,g3,g4⟩ hV hfr hnD hdef hm g1);have c1:=(aE g1).1;have HMK:Hid (Marks Wz [D]):=Hd ((Marks.nil Wz).cons (by simp) hdef);obtain⟨va,vc,hva,_,_⟩:=bP g3;try rw[List.length_map] at hva
  subst hva;clear hit hfr hnD hdef hV i5 DONE hF hnF' q5w lF htn f0 hnb' hn hnb hT5 m5 q5 s5 hC' hDz hRl hYb g1 g2 g3 g4;refine wpIn_wide.2 ?_;go_wp2_with fail;refine jG [D] _ HMK.o fun W' hm=>⟨_,results_tmp2 (fn:=Tryz.f53) rfl _ _ _,?_⟩
  exact⟨_,rfl,HFN W' hm⟩
end
theorem MU {w0 w:World}{R:List Nat}{t d s:Nat}{E:List Ent}{pa ob oi ri ba de ex li ha hb v id:Int}{nm X:ByteArray}(h:TxS w0 R w t d s 640 E)(hE:E.length<=290)(hn:NumE E 10376293541461622785 v)(hv:v<16777215)(hid:v+1=id)(hq:ha<li)(hhb:ha+1=hb)(hl:0<=ha/\li<=1000)(hc:fM id ⟨pa,ob,oi,ri,ba,de,ex,0,false⟩)(ho:fF oi ⟨nm,li,hb⟩)(hX:Str (aS id 3)=X) :
  () 37 #[t,.agg #[(0:Int),pa,ob,(0:Int),ri,ba,de,ex,(0:Int),false],.agg #[oi,nm,li,ha]] w fun e w'=>e=.returned (.tuple #[id,(0:Int)])/\TxS w0 R w' t d s 640 (oX E id ⟨pa,ob,oi,ri,ba,de,ex,0,false⟩ oi ⟨nm,li,hb⟩)/\KeptT R t w w':=by
 obtain⟨a1,a2,a3,a4,a5,a6,a7⟩:=h.box (.cells #[(0:Int),pa,ob,(0:Int),ri,ba,de,ex,(0:Int),false] 33);obtain⟨bc,hbc⟩:∃ b,w.heap.size=b:=⟨_,rfl⟩
 obtain⟨x1,hx1⟩:∃ x,w.alloc (.cells #[(0:Int),pa,ob,(0:Int),ri,ba,de,ex,(0:Int),false] 33)=x:=⟨_,rfl⟩
 rw[hx1] at a1 a2 a3 a5;rw[hbc] at a1 a3 a4 a5 a6 a7;obtain⟨b1,b2,b3,b4,b5,b6,b7⟩:=a1.box (.cells #[oi,nm,li,ha] 49);obtain⟨bo,hbo⟩:∃ b,x1.heap.size=b:=⟨_,rfl⟩
 obtain⟨x2,hx2⟩:∃ x,x1.alloc (.cells #[oi,nm,li,ha] 49)=x:=⟨_,rfl⟩
 rw[hx2] at b1 b2 b3 b5;rw[hbo] at b1 b3 b4 b5 b6 b7;have mc:=(b2 bc (by simp) a4).trans a3;have NU:=Hd (MO b1 (show E.length<=600 by omega) (m:=1) ⟨by decide,by decide⟩ hn hv hid);have HX:=Hd (And.intro hx1 (And.intro hbc (And.intro hx2 (show bc+1=bo from a5.symm.trans hbo))));have HK:=Hd (a2.trans (b2.sub (R':=R) fun k hk=>by simp[hk]));have HB:=Hd (And.intro mc (And.intro b3 (And.intro a4 (And.intro b4 (And.intro a6 (And.intro b6 (show bo≠bc from fun e=>b7 bc (by simp) e.symm)))))));have e1:¬ li<=ha:=by omega
 have e2:IntKind.i64.wrap (ha+1)=hb:=by rw[hhb];exact IntWalk.i64_in _ (by omega)
 obtain⟨⟨y0,y1,y2,y3⟩,_⟩:=eO b3;have hrid:=DT hc;have HN:Hid (E.length<=290/\(0<=id/\id<=16777215)/\Str (aS id 3)=X):=Hd ⟨hE,by omega,hX⟩;have HC:=Hd (And.intro hc ho);have HRK:=Hd (show(∀ k∈R,k≠bc)/\∀ k∈R,k≠bo from⟨a7,fun k hk=>b7 k (by simp[hk])⟩);clear h hE hn hv hid hq hhb hl hc ho hX a1 a2 a3 a4 a5 a6 a7 b1 b2 b3 b4 b5 b6 b7 mc hx1 hx2 hrid hbc hbo;go_enter Tryz.func37,Tryz.ntmps37;go_upto_region 1 with fail
 rw[HX.1,HX.2.1,HX.2.2.1,HX.2.2.2];go_wp2_with fail;refine NU.mono ?_;rintro e w3 ⟨rfl,h1,h2⟩;have m3:=(h2 bc (by simp) HB.2.2.1).trans HB.1;have m4:=(h2 bo (by simp) HB.2.2.2.1).trans HB.2.1;have T3:=Hd (And.intro h1 (And.intro (HK.trans (h2.sub (R':=R) fun k hk=>by simp[hk])) (And.intro m3 m4)));clear h1 h2 NU y0 y1 y2 y3;obtain⟨⟨y0,y1,y2,y3⟩,_⟩:=eO m4;obtain⟨⟨c0,c1,c2,c3,c4,c5,c6,c7,c8,c9⟩,f0,f1,f2,f3,f4,f5,f6,f7,f8,f9⟩:=bZ m3;clear m3 m4;go_upto_region 6 with fail
 go_cut [] from 10 (fun wx=>Hid (TxS w0 (bo::bc::R) wx t d s 640 E/\KeptT R t w wx/\wx.heap[bc]?=some (.cells #[id,pa,ob,oi,ri,ba,de,ex,(0:Int),false] 33)/\wx.heap[bo]?=some (.cells #[oi,nm,li,ha] 49)))
 case first=>
  have SA:Hid (∀ wx:World,(wx.heap=((w3.setCell ⟨bc,0,none⟩ (.int .i64 id)).setCell ⟨bc,3,none⟩ (.int .i64 oi)).heap\/wx.heap=((w3.setCell ⟨bc,3,none⟩ (.int .i64 oi)).setCell ⟨bc,0,none⟩ (.int .i64 id)).heap)->Frm (fun k=>k=bc) w3 wx->Hid (TxS w0 (bo::bc::R) wx t d s 640 E/\KeptT R t w wx/\wx.heap[bc]?=some (.cells #[id,pa,ob,oi,ri,ba,de,ex,(0:Int),false] 33)/\wx.heap[bo]?=some (.cells #[oi,nm,li,ha] 49))):=Hd fun wx hw f=>Hd ⟨T3.1.turn (k:=bc) (by simp) HB.2.2.1 HB.2.2.2.2.1 f,fun k hk hn=>(f.block k (T3.1.lt.1 k (by simp[hk])) (HRK.1 k hk)).trans (T3.2.1 k hk hn),by
   rcases hw with e|e
   ·rw[e,hss _ _ 3 _ _ _ (hss _ _ 0 _ _ _ T3.2.2.1)];rfl
   ·rw[e,hss _ _ 0 _ _ _ (hss _ _ 3 _ _ _ T3.2.2.1)];rfl,(f.block bo (T3.1.lt.1 bo (by simp)) HB.2.2.2.2.2.2).trans T3.2.2.2⟩
  have m4:=T3.2.2.2;have m3:=T3.2.2.1;have nbc:=HB.2.2.2.2.2.2;obtain⟨⟨p0,_⟩,_⟩:=eO (show(w3.setCell ⟨bc,0,none⟩ (.int .i64 id)).heap[bo]?=some (.cells #[oi,nm,li,ha] 49) from(heap_setCell_other _ _ _ _ nbc).trans m4)
  obtain⟨⟨r0,r1,r2,r3,r4,r5,r6,r7,r8,r9⟩,s0,s1,s2,s3,s4,s5,s6,s7,s8,s9⟩:=bZ (show(w3.setCell ⟨bc,0,none⟩ (.int .i64 id)).heap[bc]?=some (.cells #[id,pa,ob,(0:Int),ri,ba,de,ex,(0:Int),false] 33) by rw[hss _ _ 0 _ _ _ m3];rfl)
  obtain⟨⟨u0,u1,u2,u3,u4,u5,u6,u7,u8,u9⟩,v0,v1,v2,v3,v4,v5,v6,v7,v8,v9⟩:=bZ (show(w3.setCell ⟨bc,3,none⟩ (.int .i64 oi)).heap[bc]?=some (.cells #[(0:Int),pa,ob,oi,ri,ba,de,ex,(0:Int),false] 33) by rw[hss _ _ 3 _ _ _ m3];rfl);clear m3 m4
  go_region
  all_goals
   go_wp2_with fail
   go_meet
   first|exact SA _ (.inl rfl) (((Frm.refl (fun k=>k=bc) w3).setCell _ _ (.inl rfl)).setCell _ _ (.inl rfl)).drew|exact SA _ (.inr rfl) (((Frm.refl (fun k=>k=bc) w3).setCell _ _ (.inl rfl)).setCell _ _ (.inl rfl)).drew
 case rest=>
  have HW:=hcut;clear hcut T3 HK y0 y1 y2 y3 c0 c1 c2 c3 c4 c5 c6 c7 c8 c9 f0 f1 f2 f3 f4 f5 f6 f7 f8 f9;have m4:=HW.2.2.2;obtain⟨⟨y0,y1,y2,y3⟩,f0,f1,f2,f3⟩:=eO m4;obtain⟨wy,hwy⟩:∃ wy,wc.setCell ⟨bo,3,none⟩ (.int .i64 hb)=wy:=⟨_,rfl⟩
  have f7:Frm (fun k=>k=bo) wc wy:=by rw[<-hwy];exact(Frm.refl _ wc).setCell _ _ (.inl rfl)
  have o7:wy.heap[bo]?=some (.cells #[oi,nm,li,hb] 49):=by rw[<-hwy,hss _ _ 3 _ _ _ m4];rfl
  have t7:=HW.1.turn (k:=bo) (by simp) HB.2.2.2.1 HB.2.2.2.2.2.1 f7;have c7:=(f7.block bc (HW.1.lt.1 bc (by simp)) (Ne.symm HB.2.2.2.2.2.2)).trans HW.2.2.1;have k7:KeptT R t w wy:=fun k hk hn=>(f7.block k (HW.1.lt.1 k (by simp[hk])) (HRK.2 k hk)).trans (HW.2.1 k hk hn)
  have HY:=Hd hwy;have T7:=Hd (And.intro t7 (And.intro k7 (And.intro c7 o7)));have GV:=Hd (DM t7 (show E.length<=300 by have:=HN.1;omega) (m:=1) rfl HN.2.1 HN.2.2);clear m4 f7 o7 t7 c7 k7 hwy HW;go_upto_region 8 with fail
  rw[HY.o];clear y0 y1 y2 y3 f0 f1 f2 f3;go_wp2_with fail;refine GV.mono ?_;rintro e w8 ⟨rfl,h1,h2⟩;have mc:=(h2 bc (by simp) HB.2.2.1).trans T7.2.2.1;have mo:=(h2 bo (by simp) HB.2.2.2.1).trans T7.2.2.2;have PC:=Hd (DI (c:=⟨pa,ob,oi,ri,ba,de,ex,0,false⟩) h1 (show(bF (aC 9 0 1) X E).length<=300 by have:=bQ (aC 9 0 1) X E;have:=HN.1;omega) HC.1 rfl (rfl:aC 1 0 id=aC 1 0 id));have T8:=Hd (And.intro (T7.2.1.trans (h2.sub (R':=R) fun k hk=>by simp[hk])) (And.intro mc mo))
  obtain⟨⟨c0,c1,c2,c3,c4,c5,c6,c7,c8,c9⟩,_⟩:=bZ mc;clear h1 h2 mc mo GV;go_wp2_with fail;refine PC.mono ?_;rintro e w9 ⟨rfl,h1,h2⟩;have mc:=(h2 bc (by simp) HB.2.2.1).trans T8.2.1;have mo:=(h2 bo (by simp) HB.2.2.2.1).trans T8.2.2
  have PO:=Hd (DH (p:=⟨nm,li,hb⟩) h1 (show(bF (aC 1 0 id) (dN ⟨pa,ob,oi,ri,ba,de,ex,0,false⟩) (bF (aC 9 0 1) X E)).length<=300 by have l1:=bQ (aC 9 0 1) X E;have l2:=bQ (aC 1 0 id) (dN ⟨pa,ob,oi,ri,ba,de,ex,0,false⟩) (bF (aC 9 0 1) X E);have l3:=bQ (aC 3 0 oi) (fB ⟨nm,li,hb⟩) (bF (aC 1 0 id) (dN ⟨pa,ob,oi,ri,ba,de,ex,0,false⟩) (bF (aC 9 0 1) X E));have l4:=bQ (aC 5 ex id) ⟨#[]⟩ (bF (aC 3 0 oi) (fB ⟨nm,li,hb⟩) (bF (aC 1 0 id) (dN ⟨pa,ob,oi,ri,ba,de,ex,0,false⟩) (bF (aC 9 0 1) X E)));have:=HN.1;omega) HC.2 rfl (rfl:aC 3 0 oi=aC 3 0 oi))
  have T9:=Hd (And.intro (T8.1.trans (h2.sub (R':=R) fun k hk=>by simp[hk])) (And.intro mc mo));obtain⟨⟨y0,y1,y2,y3⟩,_⟩:=eO mo;clear h1 h2 mc mo PC c0 c1 c2 c3 c4 c5 c6 c7 c8 c9;go_wp2_with fail;refine PO.mono ?_;rintro e wb ⟨rfl,h1,h2⟩;have mc:=(h2 bc (by simp) HB.2.2.1).trans T9.2.1;have TB:=Hd (And.intro h1 (And.intro (T9.1.trans (h2.sub (R':=R) fun k hk=>by simp[hk])) mc));obtain⟨⟨c0,c1,c2,c3,c4,c5,c6,c7,c8,c9⟩,_⟩:=bZ mc;clear h1 h2 mc PO y0 y1 y2 y3
  by_cases hx0:ex=0
  ·have hx1:(ex==0)=true:=by simpa using hx0
   have hx2:(ex != 0)=false:=by simpa using hx0
   obtain⟨wz,hwz⟩:∃ wz,wb=wz:=⟨_,rfl⟩
   subst hwz;have TZ:=Hd TB.1;have KZ:=Hd TB.2.1
   by_cases hp0:pa=0
   ·have hp1:(pa==0)=true:=by simpa using hp0
    have hp2:(pa != 0)=false:=by simpa using hp0
    have FIN:Hid (TxS w0 R wb t d s 640 (oX E id ⟨pa,ob,oi,ri,ba,de,ex,0,false⟩ oi ⟨nm,li,hb⟩)/\KeptT R t w wb):=Hd ⟨by
     unfold oX;simp only[if_pos hp0,HN.2.2,if_pos hx0];exact TZ.sub fun k hk=>by simp[hk],KZ.o⟩
    clear hp0 hx0;go_wp2_with fail;go_ret2;exact⟨rfl,FIN.o⟩
   ·have hp1:(pa==0)=false:=by simpa using hp0
    have hp2:(pa != 0)=true:=by simpa using hp0
    have HP0:=Hd (And.intro hp0 hx0);clear hp0 hx0;go_wp2_with fail;refine(iQ 2 pa id _ _ rfl).mono ?_;rintro e w9 ⟨rfl,rfl⟩
    have PU:=Hd (tG (key:=aC 2 pa id) (val:=⟨#[]⟩) TZ (by have l1:=bQ (aC 9 0 1) X E;have l2:=bQ (aC 1 0 id) (dN ⟨pa,ob,oi,ri,ba,de,ex,0,false⟩) (bF (aC 9 0 1) X E);have l3:=bQ (aC 3 0 oi) (fB ⟨nm,li,hb⟩) (bF (aC 1 0 id) (dN ⟨pa,ob,oi,ri,ba,de,ex,0,false⟩) (bF (aC 9 0 1) X E));have l4:=bQ (aC 5 ex id) ⟨#[]⟩ (bF (aC 3 0 oi) (fB ⟨nm,li,hb⟩) (bF (aC 1 0 id) (dN ⟨pa,ob,oi,ri,ba,de,ex,0,false⟩) (bF (aC 9 0 1) X E)));have:=HN.1;omega) (cT _ _ _) (by decide))
    go_wp2_with fail;refine PU.mono ?_;rintro e w10 ⟨rfl,h1,h2⟩
    have FIN:Hid (TxS w0 R w10 t d s 640 (oX E id ⟨pa,ob,oi,ri,ba,de,ex,0,false⟩ oi ⟨nm,li,hb⟩)/\KeptT R t w w10):=Hd ⟨by
     unfold oX;simp only[if_neg HP0.1,HN.2.2,if_pos HP0.2];exact h1.sub fun k hk=>by simp[hk],KZ.trans (h2.sub fun k hk=>by simp[hk])⟩
    clear h1 h2 PU;go_wp2_with fail;go_ret2;exact⟨rfl,FIN.o⟩
  ·have hx1:(ex==0)=false:=by simpa using hx0
   have hx2:(ex != 0)=true:=by simpa using hx0
   have HX0:=Hd hx0;clear hx0;go_wp2_with fail;refine(iQ 5 ex id _ _ rfl).mono ?_;rintro e wk ⟨rfl,rfl⟩
   have PU:=Hd (tG (key:=aC 5 ex id) (val:=⟨#[]⟩) TB.1 (by have l1:=bQ (aC 9 0 1) X E;have l2:=bQ (aC 1 0 id) (dN ⟨pa,ob,oi,ri,ba,de,ex,0,false⟩) (bF (aC 9 0 1) X E);have l3:=bQ (aC 3 0 oi) (fB ⟨nm,li,hb⟩) (bF (aC 1 0 id) (dN ⟨pa,ob,oi,ri,ba,de,ex,0,false⟩) (bF (aC 9 0 1) X E));have l4:=bQ (aC 5 ex id) ⟨#[]⟩ (bF (aC 3 0 oi) (fB ⟨nm,li,hb⟩) (bF (aC 1 0 id) (dN ⟨pa,ob,oi,ri,ba,de,ex,0,false⟩) (bF (aC 9 0 1) X E)));have:=HN.1;omega) (cT _ _ _) (by decide))
   go_wp2_with fail;refine PU.mono ?_;rintro e wz ⟨rfl,h1,h2⟩;have mc:=(h2 bc (by simp) HB.2.2.1).trans TB.2.2;have TZ:=Hd h1;have KZ:=Hd (TB.2.1.trans (h2.sub (R':=R) fun k hk=>by simp[hk]));clear c0 c1 c2 c3 c4 c5 c6 c7 c8 c9;obtain⟨⟨c0,c1,c2,c3,c4,c5,c6,c7,c8,c9⟩,_⟩:=bZ mc;have hx0:=HX0.o;clear h1 h2 mc PU
   by_cases hp0:pa=0
   ·have hp1:(pa==0)=true:=by simpa using hp0
    have hp2:(pa != 0)=false:=by simpa using hp0
    have FIN:Hid (TxS w0 R wz t d s 640 (oX E id ⟨pa,ob,oi,ri,ba,de,ex,0,false⟩ oi ⟨nm,li,hb⟩)/\KeptT R t w wz):=Hd ⟨by
     unfold oX;simp only[if_pos hp0,HN.2.2,if_neg hx0];exact TZ.sub fun k hk=>by simp[hk],KZ.o⟩
    clear hp0 hx0;go_wp2_with fail;go_ret2;exact⟨rfl,FIN.o⟩
   ·have hp1:(pa==0)=false:=by simpa using hp0
    have hp2:(pa != 0)=true:=by simpa using hp0
    have HP0:=Hd (And.intro hp0 hx0);clear hp0 hx0;go_wp2_with fail;refine(iQ 2 pa id _ _ rfl).mono ?_;rintro e w9 ⟨rfl,rfl⟩
    have PU:=Hd (tG (key:=aC 2 pa id) (val:=⟨#[]⟩) TZ (by have l1:=bQ (aC 9 0 1) X E;have l2:=bQ (aC 1 0 id) (dN ⟨pa,ob,oi,ri,ba,de,ex,0,false⟩) (bF (aC 9 0 1) X E);have l3:=bQ (aC 3 0 oi) (fB ⟨nm,li,hb⟩) (bF (aC 1 0 id) (dN ⟨pa,ob,oi,ri,ba,de,ex,0,false⟩) (bF (aC 9 0 1) X E));have l4:=bQ (aC 5 ex id) ⟨#[]⟩ (bF (aC 3 0 oi) (fB ⟨nm,li,hb⟩) (bF (aC 1 0 id) (dN ⟨pa,ob,oi,ri,ba,de,ex,0,false⟩) (bF (aC 9 0 1) X E)));have:=HN.1;omega) (cT _ _ _) (by decide))
    go_wp2_with fail;refine PU.mono ?_;rintro e w10 ⟨rfl,h1,h2⟩
    have FIN:Hid (TxS w0 R w10 t d s 640 (oX E id ⟨pa,ob,oi,ri,ba,de,ex,0,false⟩ oi ⟨nm,li,hb⟩)/\KeptT R t w w10):=Hd ⟨by
     unfold oX;simp only[if_neg HP0.1,HN.2.2,if_neg HP0.2];exact h1.sub fun k hk=>by simp[hk],KZ.trans (h2.sub fun k hk=>by simp[hk])⟩
    clear h1 h2 PU;go_wp2_with fail;go_ret2;exact⟨rfl,FIN.o⟩
theorem WS {os:List bV}(hl:os.length<=1000){e:Ent}(he:e∈mD 0 os):∃ (j:Nat) (o:bV),j<1000/\os[j]?=some o/\e=(aC 3 0 ((j:Int)+1),fB o):=by
 obtain⟨j,hj⟩:=List.mem_iff_getElem?.1 he;rw[rZ,Nat.zero_add] at hj
 cases ho:os[j]? with
 | none=>rw[ho] at hj;cases hj
 | some o=>
  rw[ho] at hj;exact⟨j,o,by have:=(List.getElem?_eq_some_iff.1 ho).1;omega,ho,(Option.some.inj hj).symm⟩
theorem wE:∀ (os:List bV) (i:Nat),i+os.length<=1000->jQ (mD i os)/\∀ e∈mD i os,aC 3 0 ((i:Int)+1)<=e.1
 | [],i,_=>⟨List.Pairwise.nil,fun e he=>by cases he⟩
 | o::os,i,h=>by
  rw[List.length_cons] at h;obtain⟨h1,h2⟩:=wE os (i+1) (by omega);have k1:bM 3 0 ((i:Int)+1)=true:=k3 (by omega) (by omega);have k2:bM 3 0 (((i+1:Nat):Int)+1)=true:=k3 (by omega) (by omega)
  have hlt:aC 3 0 ((i:Int)+1)<aC 3 0 (((i+1:Nat):Int)+1):=by
   unfold aC;rw[if_pos k1,if_pos k2];omega
  rw[mD];obtain⟨a,ha⟩:∃ a,aC 3 0 ((i:Int)+1)=a:=⟨_,rfl⟩
  obtain⟨b,hb⟩:∃ b,aC 3 0 (((i+1:Nat):Int)+1)=b:=⟨_,rfl⟩
  rw[ha,hb] at hlt;rw[hb] at h2;rw[ha];refine⟨List.Pairwise.cons (fun e he=>?_) h1,fun e he=>?_⟩
  ·exact Int.lt_of_lt_of_le hlt (h2 e he)
  ·rcases List.mem_cons.1 he with rfl|he
   ·exact Int.le_refl _
   ·exact Int.le_trans (Int.le_of_lt hlt) (h2 e he)
theorem CpE.owners {E:List Ent}{cs:List (Option aF)}{os:List bV}{ls:List Int}{m:Nat}(h:CpE E cs os ls m):((bD (aC 3 0 0) E).takeWhile fun e=>dI e.1 3 0)=mD 0 os:=by
 have hol:=h.ol;rw[LH h.keys (k3 (by decide) (by decide))];have hs:=wE os 0 (by omega);refine vS (List.Pairwise.filter _ h.keys.1) hs.1 fun x=>?_
 have hf:=rO (fun x=>dI x 3 0&&decide (0<=spB x)) E x;rw[hf]
 cases hg:cG x (mD 0 os) with
 | some v=>
  obtain⟨j,o,hj,ho,he⟩:=WS (by omega) ((iT hs.1).2 hg);simp only[Prod.mk.injEq] at he;obtain⟨hx1,hv1⟩:=he;rw[hx1,hv1];have kk:bM 3 0 ((j:Int)+1)=true:=k3 (by omega) (by omega);obtain⟨e1,e2,e3⟩:=lL kk
  have hin:(dI (aC 3 0 ((j:Int)+1)) 3 0&&decide (0<=spB (aC 3 0 ((j:Int)+1))))=true:=by
   unfold dI;rw[e1,e2,e3];simp only[beq_self_eq_true,Bool.true_and,decide_eq_true_eq];omega
  rw[if_pos hin,h.own _ (by omega) (by omega)];unfold lV;rw[if_pos (by omega),show((j:Int)+1-1).toNat=j by omega,ho]
  rfl
 | none=>
  by_cases hp:(dI x 3 0&&decide (0<=spB x))=true
  ·rw[if_pos hp]
   cases hx:cG x E with
   | none=>rfl
   | some v=>
    have hr:0<=x/\x<=18446744073709551615:=h.keys.2 _ ((iT h.keys.1).2 hx);unfold dI at hp;simp only[Bool.and_eq_true,beq_iff_eq,decide_eq_true_eq] at hp;obtain⟨q1,q2⟩:=LQ hr.1 hr.2 hp.1.1 hp.1.2 rfl;have hb:=cW.1 q2;rw[<-q1,h.own _ hb.2.2.1 hb.2.2.2] at hx;obtain⟨o,ho,_⟩:=Option.map_eq_some_iff.1 hx;unfold lV at ho
    by_cases h1:1<=spB x
    ·rw[if_pos h1] at ho
     have hm:(x,fB o)∈mD 0 os:=by
      refine List.mem_iff_getElem?.2 ⟨(spB x-1).toNat,?_⟩;rw[rZ,Nat.zero_add,ho];simp only[Option.map_some];rw[show(((spB x-1).toNat:Nat):Int)+1=spB x by omega,q1]
     rw[(iT hs.1).1 hm] at hg
     cases hg
    ·rw[if_neg h1] at ho;cases ho
  ·rw[if_neg hp]
theorem CpE.num1 {E:List Ent}{cs:List (Option aF)}{os:List bV}{ls:List Int}{m:Nat}(h:CpE E cs os ls m):NumE E 10376293541461622785 (cs.length:Int):=by
 have h1:cG 10376293541461622785 E=if cs.length=0 then none else some (Str (aS (cs.length:Int) 3)):=h.n1
 have:=h.cl
 by_cases e:cs.length=0
 ·rw[if_pos e] at h1
  exact .inl ⟨(MH h1).2,by omega⟩
 ·rw[if_neg e] at h1
  exact .inr ⟨(gQ h1).2,(gQ h1).1,by omega,by omega⟩
theorem CpE.num2 {E:List Ent}{cs:List (Option aF)}{os:List bV}{ls:List Int}{m:Nat}(h:CpE E cs os ls m):NumE E 10376293541461622786 (os.length:Int):=by
 have h1:cG 10376293541461622786 E=if os.length=0 then none else some (Str (aS (os.length:Int) 3)):=h.n2
 have:=h.ol
 by_cases e:os.length=0
 ·rw[if_pos e] at h1
  exact .inl ⟨(MH h1).2,by omega⟩
 ·rw[if_neg e] at h1
  exact .inr ⟨(gQ h1).2,(gQ h1).1,by omega,by omega⟩
theorem CpE.getO {E:List Ent}{cs:List (Option aF)}{os:List bV}{ls:List Int}{m:Nat}(h:CpE E cs os ls m){i:Nat}{o:bV}(ho:os[i]?=some o):ZS E ((i:Int)+1) o:=by
 have hi:=(List.getElem?_eq_some_iff.1 ho).1;have:=h.ol;refine⟨?_,h.ownOk i o ho⟩;rw[h.own _ (by omega) (by omega)];unfold lV;rw[if_pos (by omega),show((i:Int)+1-1).toNat=i by omega,ho]
 rfl
theorem CpE.getC {E:List Ent}{cs:List (Option aF)}{os:List bV}{ls:List Int}{m:Nat}(h:CpE E cs os ls m){i:Nat}{c:aF}(hc:cs[i]?=some (some c)):KI E ((i:Int)+1) c:=by
 have hi:=(List.getElem?_eq_some_iff.1 hc).1;have:=h.cl;refine⟨?_,h.capOk i c hc⟩;rw[h.cap _ (by omega) (by omega)];unfold kE;rw[show((i:Int)+1-1).toNat=i by omega,hc]
 rfl
theorem TC {w0 w:World}{R:List Nat}{t d s n:Nat}{E:List Ent}{nm f:ByteArray}{os:List bV}{id e:Int}{p:bV}(h:TxS w0 R w t d s n E)(hE:E.length<=600)(hK:jS E)
  (hos:((bD (aC 3 0 0) E).takeWhile fun e=>dI e.1 3 0)=mD 0 os)(hok:∀ (i:Nat) (o:bV),os[i]?=some o->fF ((i:Int)+1) o)(hnm:nm.size<=140737488351232)(hr:cY nm=true)(hf:gR nm=f)(hres:aEQ os f id p e) :
  () 30 #[t,nm] w fun e' w'=>e'=.returned (.tuple #[.agg #[id,p.nm,p.li,p.ha],.int .i64 e])/\TxS w0 R w' t d s n E/\KeptT R t w w':=by
 rcases(show _\/_ from hres) with hx|hx
 ·obtain⟨i,g1,g2,g3,g4,g5⟩:=hx
  exact MP h (.inl ⟨g4,rfl,rfl,rfl,rfl⟩) fun R' wa b0 b1 hT g0 g1 gm=>wL hT g1 g0 ⟨gm.2,gm.1⟩ hE hK hos hok hnm hr hf hres
 ·obtain⟨g1,rfl,rfl,rfl⟩:=hx
  exact MP h (.inr ⟨by decide,rfl,rfl,rfl,rfl⟩) fun R' wa b0 b1 hT g0 g1 gm=>wL hT g1 g0 ⟨gm.2,gm.1⟩ hE hK hos hok hnm hr hf hres
theorem aA0 {w0 w:World}{R:List Nat}{t d s:Nat}{E:List Ent}{bn bl bt:Nat}{nm:ByteArray}{li:Int}{os:List bV}{f:ByteArray}{v id:Int}(h:TxS w0 R w t d s 640 E)(hb:w.heap[bn]?=some (.cells #[nm] 9))(hl:w.heap[bl]?=some (.cells #[.int .i64 li] 3))(ht:w.heap[bt]?=some (.cells #[t] 24))(hm:(bn∈R/\bn≠t/\w0.heap.size<=bn)/\(bl∈R/\bl≠t/\w0.heap.size<=bl)/\(bt∈R/\bt≠t/\w0.heap.size<=bt))(hE:E.length<=290)(hK:jS E)
  (hos:((bD (aC 3 0 0) E).takeWhile fun e=>dI e.1 3 0)=mD 0 os)(hok:∀ (i:Nat) (o:bV),os[i]?=some o->fF ((i:Int)+1) o)(hnm:nm.size<=140737488351232)(hr:cY nm=true)(hf:gR nm=f)(hli:0<=li/\li<=1000)(hx:aEQ os f 0 ⟨⟨#[]⟩,0,0⟩ 3)(hv:NumE E 10376293541461622786 v)(hv1:v<16777215)(hid:v+1=id)(ho:fF id ⟨f,li,0⟩) :
  () 28 #[bn,bl,bt] w fun e' w'=>e'=.returned (.tuple #[.int .i64 id,(0:Int)])/\TxS w0 R w' t d s 640 (PZ E id ⟨f,li,0⟩)/\KeptT R t w w':=by
 have fd:=YN nm hr;rw[hf] at fd;have FO:=Hd (fun w=>by have:=tU nm w hnm;rw[hr,hf] at this;exact this);have NA:Hid (∀ w,TxS w0 R w t d s 640 E->() 30 #[t,f] w fun e' w'=>e'=.returned (.tuple #[.agg #[(0:Int),.string ⟨#[]⟩,(0:Int),(0:Int)],(3:Int)])/\TxS w0 R w' t d s 640 E/\KeptT R t w w'):=Hd fun w h=>TC h (show E.length<=600 by omega) hK hos hok (by rw[fd.size];exact hnm) fd.right fd.again hx
 have c0:=(aE hb).1;have c1:=(aE hl).1;have HB:=Hd (And.intro hl (And.intro ht hm));have H0:=Hd (And.intro h (And.intro hE hK));have e1:¬ li<0:=by omega
 have e2:¬ (1000:Int)<li:=by omega
 have HN:=Hd (And.intro hv (And.intro hv1 (And.intro hid ho)));clear h hb hl ht hm hE hK hos hok hnm hr hf hli hx fd hv hv1 hid ho;go_enter Tryz.func28,Tryz.ntmps28;go_wp2_with fail;refine(FO _).mono ?_;rintro e w2 ⟨rfl,b2⟩;have m1:=qB HB.1 b2;have m2:=qB HB.2.1 b2;have T2:=Hd (And.intro (H0.1.below b2) (And.intro (H0.1.kept b2) (And.intro m1 m2)));clear c0 c1;have c1:=(aE m1).1;have c2:=(aE m2).1;clear b2 m1 m2;go_wp2_with fail;refine(NA _ T2.1).mono ?_;rintro e w3 ⟨rfl,h1,h2⟩
 obtain⟨a1,a2,a3,a4,a5,a6,a7⟩:=h1.box (.cells #[(0:Int),.string ⟨#[]⟩,(0:Int),(0:Int)] 49);obtain⟨x1,hx1⟩:∃ x,w3.alloc (.cells #[(0:Int),.string ⟨#[]⟩,(0:Int),(0:Int)] 49)=x:=⟨_,rfl⟩
 rw[hx1] at a1 a2 a3 a5;have K1:=Hd (T2.2.1.trans (h2.trans a2));have X1:=Hd hx1;have bt1:=(a2 bt HB.2.2.2.2.1 HB.2.2.2.2.2.1).trans ((h2 bt HB.2.2.2.2.1 HB.2.2.2.2.2.1).trans T2.2.2.2);have bl1:=(a2 bl HB.2.2.2.1.1 HB.2.2.2.1.2.1).trans ((h2 bl HB.2.2.2.1.1 HB.2.2.2.1.2.1).trans T2.2.2.1);have NU:=Hd (MO (m:=2) (a1.sub (R':=R) fun k hk=>by simp[hk]) (show E.length<=600 by have:=H0.2.1;omega) ⟨by decide,by decide⟩ HN.1 HN.2.1 HN.2.2.1);have B1:=Hd (And.intro bt1 bl1)
 clear h1 h2 a1 a2 a3 a4 a5 a6 a7 c1 c2 hx1;have c2:=(aE bt1).1;clear bt1 bl1;go_upto_region 5 with fail
 rw[X1.o];go_wp2_with fail;refine NU.mono ?_;rintro e w4 ⟨rfl,h1,h2⟩;have bt1:=(h2 bt HB.2.2.2.2.1 HB.2.2.2.2.2.1).trans B1.1;have bl1:=(h2 bl HB.2.2.2.1.1 HB.2.2.2.1.2.1).trans B1.2;have hid:=pS HN.2.2.2;have GV:=Hd (DM (m:=2) h1 (show E.length<=300 by have:=H0.2.1;omega) rfl (show 0<=id/\id<=16777215 by omega) rfl);have B2:=Hd (And.intro bt1 (And.intro bl1 (K1.trans h2)));clear h1 h2 NU c2 hid;have c2:=(aE bt1).1;clear bt1 bl1;go_wp2_with fail;refine GV.mono ?_;rintro e w5 ⟨rfl,h1,h2⟩
 have bt1:=(h2 bt HB.2.2.2.2.1 HB.2.2.2.2.2.1).trans B2.1;have bl1:=(h2 bl HB.2.2.2.1.1 HB.2.2.2.1.2.1).trans B2.2.1;have PO:=Hd (DH (p:=⟨f,li,0⟩) h1 (by have:=bQ (aC 9 0 2) (Str (aS id 3)) E;have:=H0.2.1;omega) HN.2.2.2 rfl (rfl:aC 3 0 id=aC 3 0 id));have K5:=Hd (B2.2.2.trans h2);clear h1 h2 GV c2;have c2:=(aE bt1).1;have c1:=(aE bl1).1;clear bt1 bl1;go_wp2_with fail;refine PO.mono ?_;rintro e w6 ⟨rfl,h1,h2⟩
 have FIN:=Hd (And.intro (show TxS w0 R w6 t d s 640 (PZ E id ⟨f,li,0⟩) from h1) (K5.trans h2));clear h1 h2 PO c1 c2;go_wp2_with fail;go_ret2;exact⟨rfl,FIN.o⟩
theorem XN {w0 w:World}{R:List Nat}{t d s:Nat}{E:List Ent}{bo br bb be bt bw:Nat}{ob ri ba ex ow v id:Int}{p:bV}(h:TxS w0 R w t d s 640 E)(hbo:w.heap[bo]?=some (.cells #[ob] 3))(hbr:w.heap[br]?=some (.cells #[ri] 3))(hbb:w.heap[bb]?=some (.cells #[ba] 3))(hbe:w.heap[be]?=some (.cells #[ex] 3))(ht:w.heap[bt]?=some (.cells #[t] 24))(hw:w.heap[bw]?=some (.cells #[ow] 3))(hm:(bo∈R/\bo≠t/\w0.heap.size<=bo)/\(br∈R/\br≠t/\w0.heap.size<=br)/\(bb∈R/\bb≠t/\w0.heap.size<=bb)/\(be∈R/\be≠t/\w0.heap.size<=be)/\(bt∈R/\bt≠t/\w0.heap.size<=bt)/\(bw∈R/\bw≠t/\w0.heap.size<=bw))(hE:E.length<=290)(hob:1<=ob/\ob<=16777215)(hmay:(fH ri ri&&(inB 0 4294967295 ba&&inB 0 268435455 ex))=true)
  (hg:ZS E ow p)(hq:p.ha<p.li)(hv:NumE E 10376293541461622785 v)(hv1:v<16777215)(hid:v+1=id)(hc:fM id ⟨0,ob,ow,ri,ba,1,ex,0,false⟩) :
  () 34 #[bo,br,bb,be,bt,bw] w fun e' w'=>e'=.returned (.tuple #[id,(0:Int)])/\TxS w0 R w' t d s 640 (oX E id ⟨0,ob,ow,ri,ba,1,ex,0,false⟩ ow ⟨p.nm,p.li,p.ha+1⟩)/\KeptT R t w w':=by
 have ID:=Hd (fun w=>uK ob true w (by unfold inB;simp;omega));have MY:=Hd (fun w=>yP ri ba ex true w hmay);have OW:=Hd (qW h (show E.length<=600 by omega) hg);have ho:=fO.1 hg.2;have AD:=Hd (fun(R':List Nat) (wx:World) (hx:TxS w0 R' wx t d s 640 E)=>MU (pa:=0) (ob:=ob) (oi:=ow) (ri:=ri) (ba:=ba) (de:=1) (ex:=ex) (nm:=p.nm) (li:=p.li) (ha:=p.ha) hx hE hv hv1 hid hq rfl ⟨ho.2.2.2.2.1,ho.2.2.2.1.2⟩ hc (fO.2 ⟨ho.1,ho.2.1,ho.2.2.1,ho.2.2.2.1,by show 0<=p.ha+1;omega,by show p.ha+1<=p.li;omega⟩) rfl)
 have HB:=Hd (And.intro hbo (And.intro hbr (And.intro hbb (And.intro hbe (And.intro ht hw)))));have HM:=Hd hm;have c0:=(aE hbo).1;have c1:=(aE hbr).1;have c2:=(aE hbb).1;have c3:=(aE hbe).1;have c4:=(aE ht).1;have c5:=(aE hw).1;obtain⟨nm,li,ha⟩:=p;clear h hbo hbr hbb hbe ht hw hm hE hob hmay hg hq hv hv1 hid hc ho;go_enter Tryz.func34,Tryz.ntmps34;go_wp2_with fail;refine(ID _).mono ?_;rintro e w1 ⟨rfl,rfl⟩;go_wp2_with fail;refine(MY _).mono ?_;rintro e w1 ⟨rfl,rfl⟩;go_wp2_with fail;refine OW.mono ?_;rintro e w3 ⟨rfl,h1,h2⟩
 obtain⟨a1,a2,a3,a4,a5,a6,a7⟩:=h1.box (.cells #[ow,nm,.int .i64 li,.int .i64 ha] 49);obtain⟨x1,hx1⟩:∃ x,w3.alloc (.cells #[ow,nm,.int .i64 li,.int .i64 ha] 49)=x:=⟨_,rfl⟩
 rw[hx1] at a1 a2 a3 a5;have K1:=Hd (h2.trans a2);clear c0 c1 c2 c3 c4 c5;have c0:=(aE ((K1 bo HM.1.1 HM.1.2.1).trans HB.1)).1;have c1:=(aE ((K1 br HM.2.1.1 HM.2.1.2.1).trans HB.2.1)).1;have c2:=(aE ((K1 bb HM.2.2.1.1 HM.2.2.1.2.1).trans HB.2.2.1)).1;have c3:=(aE ((K1 be HM.2.2.2.1.1 HM.2.2.2.1.2.1).trans HB.2.2.2.1)).1;have c4:=(aE ((K1 bt HM.2.2.2.2.1.1 HM.2.2.2.2.1.2.1).trans HB.2.2.2.2.1)).1;obtain⟨⟨y0,y1,y2,y3⟩,_⟩:=eO a3;have AX:=Hd (AD _ _ a1);have X1:=Hd hx1
 clear h1 h2 a1 a2 a3 a4 a5 a6 a7 hx1 OW;go_upto_region 4 with fail
 rw[X1.o];go_wp2_with fail;refine AX.mono ?_;rintro e w4 ⟨rfl,h1,h2⟩;have FIN:=Hd (And.intro (h1.sub (R':=R) fun k hk=>by simp[hk]) (K1.trans (h2.sub (R':=R) fun k hk=>by simp[hk])));clear h1 h2 AX c0 c1 c2 c3 c4 y0 y1 y2 y3;go_wp2_with fail;go_ret2;exact⟨rfl,FIN.o⟩
theorem MN {w0 w:World}{R:List Nat}{t d s:Nat}{E:List Ent}{nm f:ByteArray}{li:Int}{os:List bV}{cs:List (Option aF)}{ls:List Int}{m:Nat}(h:TxS w0 R w t d s 640 E)(hc:CpE E cs os ls m)(hm:m<=290)(hl:os.length<25)(hnm:nm.size<=140737488351232)(hr:cY nm=true)(hf:gR nm=f)(hli:0<=li/\li<=1000)(hnew:∀ (j:Nat) (q:bV),os[j]?=some q->q.nm≠f) :
  () 10 #[t,nm,li] w fun e' w'=>e'=.returned (.tuple #[.int .i64 ((os.length:Int)+1),(0:Int)])/\TxS w0 R w' t d s 640 (PZ E ((os.length:Int)+1) ⟨f,li,0⟩)/\KeptT R t w w'/\CpE (PZ E ((os.length:Int)+1) ⟨f,li,0⟩) cs (os++[⟨f,li,0⟩]) ls (m+2):=by
 have fd:=YN nm hr;rw[hf] at fd;have ho:fF ((os.length:Int)+1) ⟨f,li,0⟩:=fO.2 ⟨by omega,fd.right,fd.again,hli,Int.le_refl 0,hli.1⟩;have hE:=hc.len;refine(aCD h (.inl ⟨rfl,rfl⟩) fun R' wa b0 b1 b2 hT g0 g1 g2 gm=>aA0 hT g1 g2 g0 ⟨gm.2.1,gm.2.2,gm.1⟩ (by omega) hc.keys hc.owners hc.ownOk hnm hr hf hli (.inr ⟨hnew,rfl,rfl,rfl⟩) hc.num2 (by omega) rfl ho).mono ?_;rintro e' w' ⟨rfl,h1,h2⟩;exact⟨rfl,h1,h2,hc.reg hl ho⟩
theorem uJ {w0 w:World}{R:List Nat}{t d s:Nat}{E:List Ent}{ow ob ri ba ex:Int}{os:List bV}{cs:List (Option aF)}{ls:List Int}{m:Nat}{oi:Nat}{p:bV}(h:TxS w0 R w t d s 640 E)(hc:CpE E cs os ls m)(hm:m<=280)(hl:cs.length<90)(hp:os[oi]?=some p)(how:(oi:Int)+1=ow)(hq:p.ha<p.li)(hob:1<=ob/\ob<=16777215)(hri:0<=ri/\ri<=65535)(hba:0<=ba/\ba<=4294967295)(hex:0<=ex/\ex<=268435455) :
  () 11 #[t,ow,ob,ri,ba,ex] w fun e' w'=>∃ E',e'=.returned (.tuple #[.int .i64 ((cs.length:Int)+1),(0:Int)])/\TxS w0 R w' t d s 640 E'/\KeptT R t w w'/\CpE E' (cs++[some ⟨0,ob,ow,ri,ba,1,ex,0,false⟩]) (os.set oi ⟨p.nm,p.li,p.ha+1⟩) (ls++[ex]) (m+5):=by
 have ho:=fO.1 (hc.ownOk oi p hp);have hi:=(List.getElem?_eq_some_iff.1 hp).1;have hol:=hc.ol;have hok:fM ((cs.length:Int)+1) ⟨0,ob,ow,ri,ba,1,ex,0,false⟩:=eZ.2 ⟨by omega,(by decide:(0:Int)<=0/\(0:Int)<=16777215),by show(0:Int)≠_;omega,hob,by show 1<=ow/\ow<=16777215;omega,hri,hba,(by decide:(1:Int)<=1/\(1:Int)<=8),⟨fun _=>rfl,fun _=>rfl⟩,hex,(by decide:(0:Int)<=0/\(0:Int)<=16777215)⟩
 have hoo:fF ((oi:Int)+1) ⟨p.nm,p.li,p.ha+1⟩:=fO.2 ⟨ho.1,ho.2.1,ho.2.2.1,ho.2.2.2.1,by show 0<=p.ha+1;omega,by show p.ha+1<=p.li;omega⟩;have hE:=hc.len
 have hmay:(fH ri ri&&(inB 0 4294967295 ba&&inB 0 268435455 ex))=true:=by
  rw[Bool.and_eq_true,Bool.and_eq_true];exact⟨jH.2 hri,fD.2 hba,fD.2 hex⟩
 have hg:=hc.getO hp;rw[how] at hg;have hmm:=hc.mint (c:=⟨0,ob,ow,ri,ba,1,ex,0,false⟩) (o:=⟨p.nm,p.li,p.ha+1⟩) (oi:=oi) hl hok hi hoo;rw[how] at hmm;refine(aCI h (.inl ⟨rfl,rfl⟩) fun R' wa b0 b1 b2 b3 b4 b5 hT g0 g1 g2 g3 g4 g5 gm=>XN hT g2 g3 g4 g5 g0 g1 ⟨gm.2.2.1,gm.2.2.2.1,gm.2.2.2.2.1,gm.2.2.2.2.2,gm.1,gm.2.1⟩ (by omega) hob hmay hg hq hc.num1 (by omega) rfl hok).mono ?_;rintro e' w' ⟨rfl,h1,h2⟩;exact⟨_,rfl,h1,h2,hmm⟩
open Go.RowKit

theorem aEA (w:World)(t s:Nat)(root:Int)(caps:Array Value)(hc:w.heap[t]?=some (txC s root 0 false))(R:Int->World->Prop)
  (HC:Calls Tryz.prog 79 caps w fun e w'=>∃ c,e=.returned (.int .i64 c)/\R c w'/\∃ root',w'.heap[t]?=some (txC s root' 0 false)) :
  () 78 #[t,.func (.func 79) #[] caps] w fun e w'=>∃ c w1,e=.returned (.bool (c==0))/\R c w1/\w1.setCell ⟨t,2,none⟩ (.int .i64 c)=w':=by
 have H:=Hd HC;obtain⟨c0,c1,c2,c3,fz⟩:=eR hc;clear hc HC fz;go_enter Tryz.func78,Tryz.ntmps78;go_wp2_with fail;refine H.mono ?_;rintro e w1 ⟨c,rfl,hR,root',hc1⟩;have FIN:=Hd hR;obtain⟨d0,d1,d2,d3,g⟩:=eR hc1;have g2:=g 2;obtain⟨w2,hw2⟩:∃ w2,w1.setCell ⟨t,2,none⟩ (.int .i64 c)=w2:=⟨_,rfl⟩
 have e2:w2.cell? ⟨t,2,none⟩=some (.int .i64 c):=by
  unfold txC at hc1;have h9:=hss w1 t 2 _ _ (.int .i64 c) hc1;rw[hw2] at h9;rw[cob h9];rfl
 have HW:=Hd hw2;clear hR hc1 g c0 c1 c2 c3 H;go_upto_region 4 with fail
 try rw[hw2]
 clear hw2 d0 d1 d2 d3 g2;go_wp2_with fail;go_ret;exact⟨c,w1,rfl,FIN.o,HW.o⟩
theorem aCA {w0 w:World}{R:List Nat}{t d s n bt bk bw:Nat}{root key:Int}{E:List Ent}(h:TrR w0 R w d s n root E)(ps:GetS bt bk t s root key w)(hm:bt∈R/\bk∈R/\t∈R)(ht0:w0.heap.size<=t)(hw:w.heap[bw]?=some (.cells #[false] 4)/\bw∈R/\w0.heap.size<=bw/\bw≠t)
  (H0:Nat)(h9:H0<=8)(hE:E.length<2 ^ (H0+1))(hn:2*E.length+2*H0+5<=n)(hk:0<=key/\key<=18446744073709551615)(gb:Bool)(hgb:fL key E=gb) :
  () 79 #[bt,bk,bw] w fun e w'=>e=.returned (.int .i64 0)/\∃ q,TrR w0 R w' d s n q (iU key E)/\w'.heap[t]?=some (txC s q 0 false)/\w'.heap[bw]?=some (.cells #[gb] 4)/\∀ k∈R,k≠t->k≠bw->w'.heap[k]?=w.heap[k]?:=by
 have PS:=Hd (show GetS bt bk t s root key w.drew from ps);have PT0:=aFG (h.below Br.drew) H0 h9 hE hn key hk;rw[hgb] at PT0;have PT:=Hd PT0;have HM:=Hd hm;have HT0:=Hd ht0;have HB:=Hd hw;clear h ps h9 hE hn hk ht0 hw hgb PT0;go_enter Tryz.func79,Tryz.ntmps79;go_upto_region 1 with fail
 refine wp_region_held_drew (S:=fun w'=>GetS bt bk t s root key w') (by kernel_rfl) PS (fun hS=>?_);refine Hv 0 8 ?va0x1 hS ?ha0x1 ?_
 case ha0x1=>
  intro w9 s9;have k9:=(aE s9.1).1;clear s9;go_simp;try (with_reducible rfl)
 simp only[SL];refine Hu 1 9 hS ?_;simp only[SL];refine Hu 2 10 hS ?_;simp only[SL];refine Hv 3 11 ?va3x4 hS ?ha3x4 ?_
 case ha3x4=>
  intro w9 s9;obtain⟨k0,k1,_,_,_⟩:=eR s9.2.2;clear s9;go_simp;try (with_reducible rfl)
 simp only[SL];refine Hv 4 12 ?va4x5 hS ?ha4x5 ?_
 case ha4x5=>
  intro w9 s9;have k9:=(aE s9.1).1;clear s9;go_simp;try (with_reducible rfl)
 simp only[SL];refine Hu 5 13 hS ?_;simp only[SL];refine Hu 6 14 hS ?_;simp only[SL];refine Hv 7 15 ?va7x8 hS ?ha7x8 ?_
 case ha7x8=>
  intro w9 s9;obtain⟨k0,k1,_,_,_⟩:=eR s9.2.2;clear s9;go_simp;try (with_reducible rfl)
 simp only[SL];refine Hv 8 16 ?va8x9 hS ?ha8x9 ?_
 case ha8x9=>
  intro w9 s9;have k9:=(aE s9.2.1).1;clear s9;go_simp;try (with_reducible rfl)
 simp only[SL];refine Hs 9 (fun K HK=>?_);go_simp;go_wp2_with fail;refine PT.mono ?_;rintro e w6 ⟨q,rfl,hT,hK⟩;refine HK _ _ ?_ ?_
 ·exact hS.kept hm hK
 clear HK K;try simp only[Act.put,SL]
 have hS':=hS.kept hm hK;clear hS;have hS:=hS';clear hS';refine Hu 10 7 hS ?_;simp only[SL];refine Hu 11 18 hS ?_;simp only[SL];refine Hu 12 19 hS ?_;simp only[SL];refine Hu 13 20 hS ?_;simp only[SL];refine Hu 14 4 hS ?_;simp only[SL];refine Hu 15 5 hS ?_;simp only[SL];refine Hu 16 6 hS ?_;simp only[SL];refine wpAnyH_done (by kernel_rfl) ?_ _;have bx:=(aE hS.1).1;obtain⟨d0,d1,d2,d3,g⟩:=eR hS.2.2;have g1:=g 1;have V0:=(hK bw HB.2.1).trans HB.1;obtain⟨u0,u1⟩:=aE V0
 have X0:(w6.setCell ⟨t,1,none⟩ (.int .i64 q)).heap[bw]?=some (.cells #[false] 4):=(Below.heap_setCell _ _ _ _ HB.2.2.2).trans V0;obtain⟨y0,y1⟩:=aE X0;obtain⟨w8,hw8⟩:∃ w8,(w6.setCell ⟨t,1,none⟩ (.int .i64 q)).setCell ⟨bw,0,none⟩ (.bool gb)=w8:=⟨_,rfl⟩
 have FIN:Hid (∃ q,TrR w0 R w8 d s n q (iU key E)/\w8.heap[t]?=some (txC s q 0 false)/\w8.heap[bw]?=some (.cells #[gb] 4)/\∀ k∈R,k≠t->k≠bw->w8.heap[k]?=w.heap[k]?):=Hd (by
  obtain⟨w7,hw7⟩:∃ w7,w6.setCell ⟨t,1,none⟩ (.int .i64 q)=w7:=⟨_,rfl⟩
  rw[hw7] at hw8 X0;have f7:Frm (fun k=>k=t) w6 w7:=by rw[<-hw7];exact fZ _
  have f8:Frm (fun k=>k=bw) w7 w8:=by rw[<-hw8];exact fZ _
  have h7:=hT.turn HM.2.2 HT0 f7;refine⟨q,h7.turn HB.2.1 HB.2.2.1 f8,?_,?_,fun k hk h1 h2=>(f8.block k (h7.lt k hk) h2).trans ((f7.block k (hT.lt k hk) h1).trans (hK k hk))⟩
  ·rw[f8.block t (h7.lt t HM.2.2) (Ne.symm HB.2.2.2)]
   have h1:=hS.2.2;unfold txC at h1 |-;rw[<-hw7,hss _ _ 1 _ _ _ h1]
   rfl
  ·rw[<-hw8,hss _ _ 0 _ _ _ X0]
   rfl)
 have HW:=Hd hw8;clear hS hT hK g hm V0 X0 hw8;go_upto_region 4 with fail
 rw[HW.o];clear bx d0 d1 d2 d3 g1 u0 u1 y0 y1;go_wp2_with fail;go_ret;exact⟨rfl,FIN.o⟩
theorem aEG {w0 w:World}{R:List Nat}{t d s n:Nat}{root:Int}{E:List Ent}(h:TrR w0 (t::R) w d s n root E)(o1 o2 o3:Obj)(x3:World)(hx:((w.alloc o1).alloc o2).alloc o3=x3) :
  TrR w0 ((w.heap.size+2)::(w.heap.size+1)::w.heap.size::t::R) x3 d s n root E/\x3.heap[w.heap.size]?=some o1/\x3.heap[w.heap.size+1]?=some o2/\x3.heap[w.heap.size+2]?=some o3/\t<w.heap.size/\(∀ k∈t::R,k<w.heap.size)/\Below w.heap.size w x3:=by
 obtain⟨x1,hx1⟩:∃ x1,w.alloc o1=x1:=⟨_,rfl⟩
 obtain⟨x2,hx2⟩:∃ x2,x1.alloc o2=x2:=⟨_,rfl⟩
 rw[hx1,hx2] at hx;have z1:x1.heap.size=w.heap.size+1:=by rw[<-hx1];simp
 have z2:x2.heap.size=w.heap.size+2:=by rw[<-hx2];simp[z1]
 have z3:x3.heap.size=w.heap.size+3:=by rw[<-hx];simp[z2]
 have b1:Below w.heap.size w x1:=by rw[<-hx1];exact aB _ _
 have b2:Below x1.heap.size x1 x2:=by rw[<-hx2];exact aB _ _
 have b3:Below x2.heap.size x2 x3:=by rw[<-hx];exact aB _ _
 have m1:x1.heap[w.heap.size]?=some o1:=by rw[<-hx1];exact han w _
 have m2:x2.heap[w.heap.size+1]?=some o2:=by rw[<-hx2,<-z1];exact han x1 _
 have m3:x3.heap[w.heap.size+2]?=some o3:=by rw[<-hx,<-z2];exact han x2 _
 have hlt:=h.lt;have bw:Below w.heap.size w x3:=(b1.trans (b2.mono (by omega))).trans (b3.mono (by omega))
 exact⟨((h.more b1 w.heap.size (Nat.le_refl _) (by omega)).more b2 (w.heap.size+1) (by omega) (by omega)).more b3 (w.heap.size+2) (by omega) (by omega),
  (b3.block _ (by omega)).trans ((b2.block _ (by omega)).trans m1),(b3.block _ (by omega)).trans m2,m3,hlt t (by simp),hlt,bw⟩
theorem aFE {w0 w:World}{R:List Nat}{t d s n:Nat}{root key:Int}{E:List Ent}(h:TrR w0 (t::R) w d s n root E)(ht:w.heap[t]?=some (txC s root 0 false))(ht0:w0.heap.size<=t)
  (H0:Nat)(h9:H0<=8)(hE:E.length<2 ^ (H0+1))(hn:2*E.length+2*H0+5<=n)(hk:0<=key/\key<=18446744073709551615)(gb:Bool)(hgb:fL key E=gb) :
  () 44 #[t,.int .u64 key] w fun e w'=>e=.returned (.bool gb)/\∃ q,TrR w0 (t::R) w' d s n q (iU key E)/\w'.heap[t]?=some (txC s q 0 false)/\∀ k∈R,k≠t->w'.heap[k]?=w.heap[k]?:=by
 obtain⟨x3,hx3⟩:∃ x3,((w.alloc (.cells #[t] 24)).alloc (.cells #[.int .u64 key] 80)).alloc (.cells #[false] 4)=x3:=⟨_,rfl⟩
 obtain⟨hT,m1,m2,m3,htl,hlt,bw⟩:=aEG h _ _ _ x3 hx3;have ht4:=(bw.block t htl).trans ht;have hs0:=h.size.size
 have DO:=Hd (aEA x3 t s root #[.pointer (some ⟨w.heap.size,0,none⟩),.pointer (some ⟨w.heap.size+1,0,none⟩),.pointer (some ⟨w.heap.size+2,0,none⟩)] ht4
  (fun c w'=>c=0/\∃ q,TrR w0 ((w.heap.size+2)::(w.heap.size+1)::w.heap.size::t::R) w' d s n q (iU key E)/\w'.heap[t]?=some (txC s q 0 false)/\w'.heap[w.heap.size+2]?=some (.cells #[gb] 4)/\∀ k∈((w.heap.size+2)::(w.heap.size+1)::w.heap.size::t::R),k≠t->k≠w.heap.size+2->w'.heap[k]?=x3.heap[k]?)
  ((aCA hT ⟨m1,m2,ht4⟩ (by simp) ht0 ⟨m3,by simp,by omega,by omega⟩ H0 h9 hE hn hk gb hgb).mono fun e w' ⟨h1,q,h2,h3,h4,h5⟩=>⟨0,h1,⟨rfl,q,h2,h3,h4,h5⟩,q,h3⟩))
 have HF:=Hd (And.intro bw (And.intro htl (And.intro hlt ht0)));have bx:=(aE m1).1;have HX:=Hd hx3;clear h ht hT m1 m2 m3 htl hlt ht0 bw hx3 h9 hE hn hk hgb ht4 hs0;go_enter Tryz.func44,Tryz.ntmps44;go_upto_region 2 with fail
 try simp only[Nat.add_assoc,Nat.reduceAdd,World.heap_size_alloc]
 rw[HX.o];go_wp2_with fail;refine DO.mono ?_;rintro e w6 ⟨c,w5,rfl,⟨rfl,q,h1,h2,h3,h4⟩,hw6⟩;have htl:=HF.2.1;obtain⟨g1,g2⟩:=aAN h2 hw6;have cb:=(aE ((g2.block _ (h1.lt (w.heap.size+2) (by simp)) (by omega)).trans h3)).1
 have FIN:Hid (∃ q,TrR w0 (t::R) w6 d s n q (iU key E)/\w6.heap[t]?=some (txC s q 0 false)/\∀ k∈R,k≠t->w6.heap[k]?=w.heap[k]?):=Hd (by
  refine⟨q,(h1.turn (by simp) HF.2.2.2 g2).sub (fun k hk=>by simp only[List.mem_cons] at hk |-;rcases hk with hk|hk <;> simp[hk]),g1,fun k hk hne=>?_⟩;have hm:k∈((w.heap.size+2)::(w.heap.size+1)::w.heap.size::t::R):=by simp[hk]
  have hkl:=HF.2.2.1 k (by simp[hk]);exact(g2.block k (h1.lt k hm) hne).trans ((h4 k hm hne (by omega)).trans (HF.1.block k hkl)))
 clear h1 h2 h3 h4 hw6 g1 g2 bx htl;go_wp2_with fail;go_ret;exact⟨rfl,FIN.o⟩
theorem aFF {w0 w:World}{R:List Nat}{t d s:Nat}{E:List Ent}{key:Int}(h:TxS w0 R w t d s 640 E)(hE:E.length<=300)(hk:0<=key/\key<=18446744073709551615)(gb:Bool)(hgb:fL key E=gb) :
  () 44 #[t,.int .u64 key] w fun e w'=>e=.returned (.bool gb)/\TxS w0 R w' t d s 640 (iU key E)/\KeptT R t w w':=by
 obtain⟨⟨q,h1,h2⟩,h3⟩:=h;refine(aFE h1 h2 h3 8 (by decide) (by omega) (by omega) hk gb hgb).mono ?_;rintro e w' ⟨rfl,q',g1,g2,g3⟩;exact⟨rfl,⟨⟨q',g1,g2⟩,h3⟩,g3⟩

def atE (a:Int):Nat->List Int->List Int
 | _,[]=>[]
 | j,x::r=>if x=a then((j:Int)+1)::atE a (j+1) r else atE a (j+1) r
theorem DY (a:Int)(j:Nat)(x:Int)(r:List Int):atE a j (x::r)=if x=a then((j:Int)+1)::atE a (j+1) r else atE a (j+1) r:=rfl
theorem yU (a:Int):∀ (ls:List Int) (j:Nat) (i:Int),i∈atE a j ls ↔ ∃ k:Nat,ls[k]?=some a/\i=((j+k:Nat):Int)+1
 | [],j,i=>by simp[atE]
 | x::r,j,i=>by
  have ih:=yU a r (j+1) i
  have step:(∃ k:Nat,(x::r)[k]?=some a/\i=((j+k:Nat):Int)+1) ↔ (x=a/\i=(j:Int)+1)\/∃ k:Nat,r[k]?=some a/\i=((j+1+k:Nat):Int)+1:=by
   constructor
   ·rintro⟨k,h1,h2⟩
    cases k with
    | zero=>exact .inl ⟨by simpa using h1,by simpa using h2⟩
    | succ k=>exact .inr ⟨k,by simpa using h1,by rw[h2];omega⟩
   ·rintro(⟨h1,h2⟩|⟨k,h1,h2⟩)
    ·exact⟨0,by simpa using h1,by simpa using h2⟩
    ·exact⟨k+1,by simpa using h1,by rw[h2];omega⟩
  rw[step,<-ih];rw[DY]
  by_cases e:x=a
  ·rw[if_pos e,List.mem_cons]
   exact⟨fun h=>h.imp (fun h=>⟨e,h⟩) id,fun h=>h.imp (fun h=>h.2) id⟩
  ·rw[if_neg e]
   exact⟨.inr,fun h=>h.resolve_left fun h=>e h.1⟩
theorem uN (a:Int):∀ (ls:List Int) (j:Nat),(atE a j ls).Pairwise (·<·)
 | [],j=>List.Pairwise.nil
 | x::r,j=>by
  rw[DY]
  by_cases e:x=a
  ·rw[if_pos e]
   refine List.Pairwise.cons (fun i hi=>?_) (uN a r (j+1));obtain⟨k,_,h2⟩:=(yU a r (j+1) i).1 hi;omega
  ·rw[if_neg e];exact uN a r (j+1)
theorem CpE.turn {E E':List Ent}{cs:List (Option aF)}{os os':List bV}{ls:List Int}{m m':Nat}(h:CpE E cs os ls m){i:Nat}(hi:i<cs.length)(x:Option aF)(l:Int)(hk:jS E')(hm:E'.length<=m')(hol:os'.length=os.length)
  (g9:∀ b,bM 9 0 b=true->cG (aC 9 0 b) E'=cG (aC 9 0 b) E)
  (g1:∀ b,bM 1 0 b=true->cG (aC 1 0 b) E'=if b=(i:Int)+1 then x.map dN else cG (aC 1 0 b) E)
  (g3:∀ b,bM 3 0 b=true->cG (aC 3 0 b) E'=(lV os' b).map fB)
  (g2:∀ a b,bM 2 a b=true->cG (aC 2 a b) E'=if b=(i:Int)+1 then(if a≠0/\x.map aF.pa=some a then some ⟨#[]⟩ else none) else cG (aC 2 a b) E)
  (g5:∀ a b,bM 5 a b=true->cG (aC 5 a b) E'=if b=(i:Int)+1 then(if a≠0/\l=a then some ⟨#[]⟩ else none) else cG (aC 5 a b) E)
  (hx:∀ c,x=some c->fM ((i:Int)+1) c)(hl:∀ c,x=some c->l=c.ex\/l=0)(ho:∀ (j:Nat) (o:bV),os'[j]?=some o->fF ((j:Int)+1) o) :
  CpE E' (cs.set i x) os' (ls.set i l) m':=by
 have hli:i<ls.length:=by have:=h.ll;omega
 have hcl:=h.cl;refine⟨hk,hm,by rw[List.length_set];exact h.cl,by rw[hol];exact h.ol,by rw[List.length_set,List.length_set];exact h.ll,?_,?_,fun id h0 h1=>?_,fun b h0 h1=>g3 b (k3 h0 h1),fun a b hk=>?_,fun a b hk=>?_,fun j c hj=>?_,ho,fun j c hj=>?_⟩
 ·rw[g9 1 (k9 1 (by decide) (by decide)),List.length_set];exact h.n1
 ·rw[g9 2 (k9 2 (by decide) (by decide)),hol];exact h.n2
 ·rw[g1 id (k1 (by omega) (by omega)),wY cs x hi h0]
  by_cases e:id=(i:Int)+1
  ·rw[if_pos e,if_pos e]
  ·rw[if_neg e,if_neg e];exact h.cap id h0 h1
 ·rw[g2 a b hk]
  by_cases hb:b<1
  ·rw[if_neg (by omega),h.kid a b hk,pZ _ hb,pZ _ hb]
  ·have e1:oE (cs.set i x) a b=if b=(i:Int)+1 then decide (a≠0/\x.map aF.pa=some a) else oE cs a b:=by
    unfold oE;rw[wY cs x hi (by omega)]
    by_cases e:b=(i:Int)+1
    ·rw[if_pos e,if_pos e]
     cases x with
     | none=>simp
     | some c=>
      simp only[Option.map_some,Option.some.injEq];rw[decide_eq_decide];constructor
      ·rintro⟨_,g1,g2⟩;exact⟨g2,g1⟩
      ·rintro⟨g1,g2⟩;exact⟨by omega,g2,g1⟩
    ·rw[if_neg e,if_neg e]
   rw[e1]
   by_cases e:b=(i:Int)+1
   ·rw[if_pos e,if_pos e]
    simp only[decide_eq_true_eq]
   ·rw[if_neg e,if_neg e];exact h.kid a b hk
 ·rw[g5 a b hk,II ls l hli]
  by_cases e:b=(i:Int)+1
  ·rw[if_pos e,if_pos e]
   simp only[decide_eq_true_eq]
   by_cases e2:a≠0/\l=a
   ·rw[if_pos e2,if_pos ⟨e2.2,e2.1⟩]
   ·rw[if_neg e2,if_neg fun q=>e2 ⟨q.2,q.1⟩]
  ·rw[if_neg e,if_neg e];exact h.lease a b hk
 ·by_cases e:i=j
  ·subst e
   rw[List.getElem?_set_self hi] at hj;exact hx c (Option.some.inj hj)
  ·rw[List.getElem?_set_ne e] at hj;exact h.capOk j c hj
 ·by_cases e:i=j
  ·subst e
   rw[List.getElem?_set_self hi] at hj;rw[List.getElem?_set_self hli]
   rcases hl c (Option.some.inj hj) with g|g
   ·exact .inl (by rw[g])
   ·exact .inr (by rw[g])
  ·rw[List.getElem?_set_ne e] at hj |-;exact h.lsx j c hj
theorem LP {cs:List (Option aF)}{i:Nat}{c:aF}(hc:cs[i]?=some (some c))(a:Int):oE cs a ((i:Int)+1)=decide (c.pa=a/\a≠0):=by
 unfold oE kE;rw[show((i:Int)+1-1).toNat=i by omega,hc];simp only[Option.join_some];rw[decide_eq_decide];exact⟨fun x=>x.2,fun x=>⟨by omega,x⟩⟩
theorem RC {ls:List Int}{i:Nat}{l:Int}(hl:ls[i]?=some l)(a:Int):iW ls a ((i:Int)+1)=decide (a≠0/\l=a):=by
 unfold iW;rw[show((i:Int)+1-1).toNat=i by omega,hl,decide_eq_decide,Option.some.injEq];exact⟨fun x=>⟨x.2.2,x.2.1⟩,fun x=>⟨by omega,x.2,x.1⟩⟩
theorem CpE.lsAt {E:List Ent}{cs:List (Option aF)}{os:List bV}{ls:List Int}{m:Nat}(h:CpE E cs os ls m){i:Nat}(hi:i<cs.length):∃ l,ls[i]?=some l/\ls.set i l=ls:=by
 have hli:i<ls.length:=by have:=h.ll;omega
 exact⟨ls[i],List.getElem?_eq_getElem hli,List.set_getElem_self _⟩
def LJ (E:List Ent)(id p:Int)(c':aF):List Ent:=bF (aC 2 c'.pa id) ⟨#[]⟩ (bF (aC 1 0 id) (dN c') (iU (aC 2 p id) E))
theorem CpE.move {E:List Ent}{cs:List (Option aF)}{os:List bV}{ls:List Int}{m:Nat}(h:CpE E cs os ls m){i:Nat}{c c':aF}(hc:cs[i]?=some (some c))(hp:c'.pa≠0)(hx:c'.ex=c.ex)(hok:fM ((i:Int)+1) c'):CpE (LJ E ((i:Int)+1) c.pa c') (cs.set i (some c')) os ls (m+2):=by
 have hi:=(List.getElem?_eq_some_iff.1 hc).1;have hcl:=h.cl;obtain⟨l,hl,hs⟩:=h.lsAt hi;have hlx:=h.lsx i c hc;have hR:=eZ.1 (h.capOk i c hc);have hR':=eZ.1 hok;have r1:=hR.pa;have r2:=hR'.pa;have q1:bM 1 0 ((i:Int)+1)=true:=k1 (by omega) (by omega);have q2:bM 2 c.pa ((i:Int)+1)=true:=cW.2 ⟨by decide,by omega,by omega⟩;have q3:bM 2 c'.pa ((i:Int)+1)=true:=cW.2 ⟨by decide,by omega,by omega⟩;have e1:=bQ (aC 1 0 ((i:Int)+1)) (dN c') (iU (aC 2 c.pa ((i:Int)+1)) E)
 have e2:=bQ (aC 2 c'.pa ((i:Int)+1)) ⟨#[]⟩ (bF (aC 1 0 ((i:Int)+1)) (dN c') (iU (aC 2 c.pa ((i:Int)+1)) E));have e3:=h.len;have e4:=uE (aC 2 c.pa ((i:Int)+1)) E;unfold LJ;rw[<-hs]
 refine h.turn hi (some c') l (gO (gO (RL h.keys _) _ (cT _ _ _)) _ (cT _ _ _)) (by omega) rfl (fun b hb=>by rw[bT hb q3,if_neg (by omega),bT hb q1,if_neg (by omega),mQ hb q2,if_neg (by omega)]) (fun b hb=>?_) (fun b hb=>?_) (fun a b hb=>?_) (fun a b hb=>?_) (fun c2 e=>by rw[<-Option.some.inj e];exact hok) (fun c2 e=>?_) h.ownOk
 ·rw[bT hb q3,if_neg (by omega),bT hb q1,mQ hb q2,if_neg (by omega:¬ ((1:Int)=2/\_))]
  by_cases e:b=(i:Int)+1
  ·rw[if_pos ⟨rfl,rfl,e⟩,if_pos e];rfl
  ·rw[if_neg (fun x=>e x.2.2),if_neg e]
 ·rw[bT hb q3,if_neg (by omega),bT hb q1,if_neg (by omega),mQ hb q2,if_neg (by omega)]
  have hb':=cW.1 hb;exact h.own b hb'.2.2.1 hb'.2.2.2
 ·rw[bT hb q3,bT hb q1,if_neg (by omega:¬ ((2:Int)=1/\_)),mQ hb q2,Option.map_some]
  by_cases e:b=(i:Int)+1
  ·rw[if_pos e]
   by_cases ea:a=c'.pa
   ·rw[if_pos ⟨rfl,ea,e⟩,if_pos ⟨by omega,by rw[ea]⟩]
   ·have en:¬ (a≠0/\some c'.pa=some a):=by rintro⟨_,x⟩;injection x with x;exact ea x.symm
    rw[if_neg (fun x=>ea x.2.1)]
    by_cases eb:a=c.pa
    ·rw[if_pos ⟨rfl,eb,e⟩,if_neg en]
    ·rw[if_neg (fun x=>eb x.2.1),if_neg en,h.kid a b hb,e,LP hc,if_neg (by rw[decide_eq_true_eq];rintro⟨x,_⟩;exact eb x.symm)]
  ·rw[if_neg (fun x=>e x.2.2),if_neg (fun x=>e x.2.2),if_neg e]
 ·rw[bT hb q3,if_neg (by omega),bT hb q1,if_neg (by omega),mQ hb q2,if_neg (by omega)]
  by_cases e:b=(i:Int)+1
  ·rw[if_pos e,h.lease a b hb,e,RC hl]
   simp only[decide_eq_true_eq]
  ·rw[if_neg e]
 ·rw[<-Option.some.inj e,hx]
  rw[hl,Option.some.injEq,Option.some.injEq] at hlx;exact hlx
def paE (cs:List (Option aF)):List Int:=cs.map fun o=>(o.map aF.pa).getD 0
theorem WO {cs:List (Option aF)}{k:Nat}{a:Int}(ha:a≠0):(paE cs)[k]?=some a ↔ ∃ c,cs[k]?=some (some c)/\c.pa=a:=by
 unfold paE;rw[List.getElem?_map];constructor
 ·intro h
  cases hk:cs[k]? with
  | none=>rw[hk] at h;simp at h
  | some o=>
   rw[hk] at h
   cases o with
   | none=>simp at h;exact absurd h.symm ha
   | some c=>exact⟨c,rfl,by simpa using h⟩
 ·rintro⟨c,h1,h2⟩
  rw[h1];simp[h2]
def eX (cs:List (Option aF))(a:Int):List Int:=atE a 0 (paE cs)
theorem nT {cs:List (Option aF)}{a:Int}(ha:a≠0)(i:Int):i∈eX cs a ↔ ∃ (k:Nat) (c:aF),cs[k]?=some (some c)/\c.pa=a/\i=(k:Int)+1:=by
 unfold eX;rw[yU];constructor
 ·rintro⟨k,h1,h2⟩
  obtain⟨c,h3,h4⟩:=(WO ha).1 h1;exact⟨k,c,h3,h4,by omega⟩
 ·rintro⟨k,c,h1,h2,h3⟩
  exact⟨k,(WO ha).2 ⟨c,h1,h2⟩,by omega⟩
theorem BV {a b:Int}(h:bM 2 a b=true):aC 2 a b=2*1152921504606846976+a*4294967296+b:=by unfold aC;rw[if_pos h]
theorem CpE.kids {E:List Ent}{cs:List (Option aF)}{os:List bV}{ls:List Int}{m:Nat}(h:CpE E cs os ls m){a f:Int}(ha:1<=a/\a<=268435455)(hf:0<=f/\f<=4294967295):(((bD (aC 2 a f) E).takeWhile fun(e:Ent)=>dI e.1 2 a).map fun(e:Ent)=>spB e.1)=(eX cs a).filter fun i=>decide (f<=i):=by
 have hcl:=h.cl;have ha0:a≠0:=by omega
 have kf:bM 2 a f=true:=cW.2 ⟨by decide,by omega,by omega⟩
 have hb:∀ i∈eX cs a,1<=i/\i<=90:=fun i hi=>by
  obtain⟨k,c,h1,_,h3⟩:=(nT ha0 i).1 hi;have:=(List.getElem?_eq_some_iff.1 h1).1;omega
 have hkk:∀ i∈eX cs a,bM 2 a i=true:=fun i hi=>cW.2 ⟨by decide,by omega,by have:=hb i hi;omega⟩
 have hK:jQ (((eX cs a).filter fun i=>decide (f<=i)).map fun i=>(aC 2 a i,(⟨#[]⟩:ByteArray))):=by
  refine List.pairwise_map.2 ((List.Pairwise.and_mem.1 (List.Pairwise.filter _ (uN a (paE cs) 0))).imp ?_);rintro i j ⟨hi,hj,hij⟩;have a1:=BV (hkk i (List.mem_filter.1 hi).1);have a2:=BV (hkk j (List.mem_filter.1 hj).1)
  dsimp only
  omega
 have hE:(E.filter fun(e:Ent)=>dI e.1 2 a&&decide (f<=spB e.1))=((eX cs a).filter fun i=>decide (f<=i)).map fun i=>(aC 2 a i,(⟨#[]⟩:ByteArray)):=by
  refine vS (List.Pairwise.filter _ h.keys.1) hK fun x=>?_
  have hf:=rO (fun x=>dI x 2 a&&decide (f<=spB x)) E x;rw[hf]
  cases hg:cG x (((eX cs a).filter fun i=>decide (f<=i)).map fun i=>(aC 2 a i,(⟨#[]⟩:ByteArray))) with
  | some v=>
   obtain⟨i,hp,he⟩:=List.mem_map.1 ((iT hK).2 hg);simp only[Prod.mk.injEq] at he;obtain⟨hx1,hv1⟩:=he;obtain⟨hm,hfi⟩:=List.mem_filter.1 hp;have kk:=hkk i hm;obtain⟨e1,e2,e3⟩:=lL kk;rw[<-hx1,<-hv1,if_pos (by unfold dI;rw[e1,e2,e3];simpa using hfi),h.kid _ _ kk,if_pos];obtain⟨k,c,g1,g2,g3⟩:=(nT ha0 i).1 hm;rw[g3,LP g1,decide_eq_true_eq];exact⟨g2,ha0⟩
  | none=>
   by_cases hp:(dI x 2 a&&decide (f<=spB x))=true
   ·rw[if_pos hp]
    cases hx:cG x E with
    | none=>rfl
    | some v=>
     have hr:0<=x/\x<=18446744073709551615:=h.keys.2 _ ((iT h.keys.1).2 hx);unfold dI at hp;simp only[Bool.and_eq_true,beq_iff_eq,decide_eq_true_eq] at hp;obtain⟨q1,q2⟩:=LQ hr.1 hr.2 hp.1.1 hp.1.2 rfl;rw[<-q1,h.kid _ _ q2] at hx
     by_cases hL:oE cs a (spB x)=true
     ·have hm:(x,(⟨#[]⟩:ByteArray))∈((eX cs a).filter fun i=>decide (f<=i)).map fun i=>(aC 2 a i,(⟨#[]⟩:ByteArray)):=by
       refine List.mem_map.2 ⟨spB x,List.mem_filter.2 ⟨(nT ha0 _).2 ?_,by simpa using hp.2⟩,by rw[q1]⟩;unfold oE kE at hL
       cases hc:cs[(spB x-1).toNat]? with
       | none=>rw[hc] at hL;simp at hL
       | some o=>
        cases o with
        | none=>rw[hc] at hL;simp at hL
        | some c=>
         rw[hc] at hL;simp only[Option.join_some,decide_eq_true_eq] at hL;exact⟨_,c,hc,hL.2.1,by omega⟩
      rw[(iT hK).1 hm] at hg
      cases hg
     ·rw[if_neg hL] at hx;cases hx
   ·rw[if_neg hp]
 rw[LH h.keys kf,hE,List.map_map]
 conv=>rhs;rw[<-List.map_id ((eX cs a).filter fun i=>decide (f<=i))]
 refine List.map_congr_left fun i hi=>?_
 exact(lL (hkk i (List.mem_filter.1 hi).1)).2.2
