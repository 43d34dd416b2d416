/-
 Cr, Cg, Cs, Dv, Dw, Ls, LeaseClockLaw, SlM, Hpk, C15, Nb, MapS, ShTx.
-/
import Derived.Test.YtblbiihpfjjhhaaGreatDoorN20
import Derived.RegionIn
import Derived.Deep.DeepCutAuto
import Derived.Test.YtblbiihpfjjhhaaGreatDoorN17
import Derived.Test.YtblbiihpfjjhhaaGreatDoorN16
import Derived.Test.YtblbiihpfjjhhaaGreatDoorN04
import Derived.Test.YtblbiihpfjjhhaaGreatDoorN02
import Derived.Test.YtblbiihpfjjhhaaGreatDoorN01
import Derived.Test.YtblbiihpfjjhhaaGreatDoorN05
import Derived.MapKept
import Derived.Test.YtblbiihpfjjhhaaGreatDoorN13
namespace Go.Proofs.YtblbiihpfjjhhaaGreatDoor
open Go Go.RowKit
set_option maxRecDepth 20000
set_option maxHeartbeats 12800000
set_option linter.unusedVariables false
set_option linter.unusedSimpArgs false
theorem tso {w0 w W4 Wz:World} {F G:Nat→Prop} {R Cb Rb:List Nat} {t d s n D:Nat} {E:List Ent}
  (hl:(∀ k∈R,k < w.heap.size)∧t < w.heap.size) (f0:Below w0.heap.size w0 w) (hnF:∀ k∈R,¬ F k) (hFl:∀ k,F k→k < w.heap.size)
  (q:Below w.heap.size w W4) (hCb:∀ k∈Cb,w.heap.size≤k∧k < W4.heap.size) (hRb:∀ k∈Rb,Wz.heap[k]?=w.heap[k]?)
  (hV:TxF w0 F Wz t d s n E) (hfr:Frm (fun k=>(k∈Cb∨k∈Rb)∨G k) W4 Wz) (hG:∀ k,G k→F k∨k=t∨k < w0.heap.size∨w.heap.size≤k)
  (hD:W4.heap.size≤D) (hdef:D < Wz.heap.size):TxS w0 (D :: (Cb ++ R)) Wz t d s n E∧KeptT R t w Wz:=by
 have qs:=q.size;have hz:=hfr.size;refine ⟨hV.hide fun k hk=>?_,fun k hk hn=>?_⟩
 ·rcases List.mem_cons.1 hk with rfl | hk
  ·exact ⟨hdef,fun e=>by have:=hFl _ e; omega⟩
  ·rcases List.mem_append.1 hk with hk | hk
   ·have:=hCb k hk
    exact ⟨by omega,fun e=>by have:=hFl _ e; omega⟩
   ·exact ⟨by have:=hl.1 k hk; omega,hnF k hk⟩
 ·have hkw:=hl.1 k hk
  by_cases hkb:k∈Rb
  ·exact hRb k hkb
  ·by_cases hk0:k < w0.heap.size
   ·exact (hV.from.block k hk0).trans (f0.block k hk0).symm
   ·refine (hfr.block k (by omega) ?_).trans (q.block k hkw)
    rintro ((h | h) | h)
    ·have:=hCb k h; omega
    ·exact hkb h
    ·rcases hG k h with h | h | h | h
     ·exact hnF k hk h
     ·exact hn h
     ·exact hk0 h
     ·omega
theorem gV {P:Program} {fn:Func} {p q:Tmp} {ty tz:TypeId} (h:fn.results=#[.cell p ty,.cell q tz]) (tmps:Array Value) (w:World) (g:Nat) (t:TypeId) (cs:Array Value) (fr:Nat × Nat) (d:TypeDesc) (b:Option Addr) (u:Value)
  (hp:tmps.getD p undef=.pointer (some ⟨g,0,none⟩)) (hg:w.heap[g]?=some (.cells cs t fr)) (hu:P.underlying ty=some d) (hd:(match d with | .struct _ | .array _ _=>true | _=>false)=true) (hi:(P.info? ty).map (·.size)=some cs.size)
  (hq:tmps.getD q undef=.pointer b) (h2:((asAddr (.pointer b)).run P w).andThen (fun a w₁=>(loadVar tz a).run P w₁)=.ok u w) :
  (results fn tmps).run P w=.ok (.tuple #[.agg cs,u]) w :=
 yA h tmps w (some ⟨g,0,none⟩) b (.agg cs) u hp hq (by simp [asAddr,run_loadVar_row w g t ty cs fr d hg hu hd hi,Result.andThen]) h2
def kD:Nat→List aN→List Ent
 | _,[]=>[]
 | i,o :: os=>(aC 3 0 ((i:Int) + 1),eE o) :: kD (i + 1) os
theorem qE:∀ (os:List aN) (i j:Nat),(kD i os)[j]?=os[j]?.map fun o=>(aC 3 0 (((i + j:Nat):Int) + 1),eE o)
 | [],i,j=>by simp [kD]
 | o :: os,i,0=>by simp [kD]
 | o :: os,i,j + 1=>by
  rw [kD,List.getElem?_cons_succ,List.getElem?_cons_succ,qE os (i + 1) j,show i + 1 + j=i + (j + 1) by omega]
theorem yT:∀ (os:List aN) (i:Nat),(kD i os).length=os.length
 | [],i=>rfl
 | o :: os,i=>by rw [kD,List.length_cons,yT os (i + 1),List.length_cons]
def wM (os:List aN) (f:ByteArray) (id:Int) (p:aN) (e:Int):Prop :=
 (∃ i:Nat,os[i]?=some p∧id=(i:Int) + 1∧p.nm=f∧e=0∧∀ (j:Nat) (q:aN),j < i→os[j]?=some q→q.nm≠f)∨((∀ (j:Nat) (q:aN),os[j]?=some q→q.nm≠f)∧id=0∧p=⟨⟨#[]⟩,0,0⟩∧e=3)
def NmI (n0 nf:Nat) (f:ByteArray) (os:List aN) (pre:List Ent) (D:Nat→Prop) (W:World):Prop:=(∀ k,D k ↔ k∈[n0,n0 + 1,nf]∨k∈([]:List Nat))∧W.heap[n0]?=some (.cells #[.int .i64 0,.string ⟨#[]⟩,.int .i64 0,.int .i64 0] 42)∧W.heap[n0 + 1]?=some (.cells #[.int .i64 0] 27)∧W.heap[nf]?=some (.cells #[.string f] 9)∧∀ (j:Nat) (q:aN),j < pre.length→os[j]?=some q→q.nm≠f
def NmX (n0 nf:Nat) (f:ByteArray) (os:List aN) (pre:List Ent) (D:Nat→Prop) (W:World):Prop:=(∀ k,D k ↔ k∈[n0,n0 + 1,nf]∨k∈([]:List Nat))∧∃ (m:Nat) (q:aN),W.heap[n0]?=some (.cells #[.int .i64 ((m:Int) + 1),.string q.nm,.int .i64 q.li,.int .i64 q.ha] 42)∧W.heap[n0 + 1]?=some (.cells #[.int .i64 0] 27)∧W.heap[nf]?=some (.cells #[.string f] 9)∧os[m]?=some q∧q.nm=f∧∀ (j:Nat) (r:aN),j < m→os[j]?=some r→r.nm≠f
theorem NmI.on {n0 nf:Nat} {f:ByteArray} {os:List aN} (pre:List Ent) (D:Nat→Prop) (A B:World) (h:NmI n0 nf f os pre D A) (ho:OnC D A B):NmI n0 nf f os pre D B:=by
 obtain ⟨h1,h2,h3,h4,h5⟩:=h;have lt:∀ {k:Nat} {o:Obj},A.heap[k]?=some o→k < A.heap.size:=fun h=>(zl h)
 exact ⟨h1,(ho.block _ (lt h2) ((h1 _).2 (by simp))).trans h2,(ho.block _ (lt h3) ((h1 _).2 (by simp))).trans h3,(ho.block _ (lt h4) ((h1 _).2 (by simp))).trans h4,h5⟩
theorem NmX.on {n0 nf:Nat} {f:ByteArray} {os:List aN} (pre:List Ent) (D:Nat→Prop) (A B:World) (h:NmX n0 nf f os pre D A) (ho:OnC D A B):NmX n0 nf f os pre D B:=by
 obtain ⟨h1,m,q,h2,h3,h4,h5⟩:=h;have lt:∀ {k:Nat} {o:Obj},A.heap[k]?=some o→k < A.heap.size:=fun h=>(zl h)
 exact ⟨h1,m,q,(ho.block _ (lt h2) ((h1 _).2 (by simp))).trans h2,(ho.block _ (lt h3) ((h1 _).2 (by simp))).trans h3,(ho.block _ (lt h4) ((h1 _).2 (by simp))).trans h4,h5⟩
theorem NmI.lt {n0 nf:Nat} {f:ByteArray} {os:List aN} (pre:List Ent) (D:Nat→Prop) (A:World) (h:NmI n0 nf f os pre D A) (k:Nat) (hk:D k):k < A.heap.size:=by
 obtain ⟨h1,h2,h3,h4,h5⟩:=h;have hk' := (h1 k).1 hk;simp only [List.mem_cons,List.not_mem_nil,or_false] at hk'
 rcases hk' with rfl | rfl | rfl
 ·exact (zl h2)
 ·exact (zl h3)
 ·exact (zl h4)
theorem NmX.lt {n0 nf:Nat} {f:ByteArray} {os:List aN} (pre:List Ent) (D:Nat→Prop) (A:World) (h:NmX n0 nf f os pre D A) (k:Nat) (hk:D k):k < A.heap.size:=by
 obtain ⟨h1,m,q,h2,h3,h4,h5⟩:=h;have hk' := (h1 k).1 hk;simp only [List.mem_cons,List.not_mem_nil,or_false] at hk'
 rcases hk' with rfl | rfl | rfl
 ·exact (zl h2)
 ·exact (zl h3)
 ·exact (zl h4)
section
attribute [local go_sem] Oper.semAt_some
theorem uF {w0 w:World} {R:List Nat} {t d s n:Nat} {E:List Ent} {bn bt:Nat} {nm f:ByteArray} {os:List aN} {id e:Int} {p:aN} (h:TxS w0 R w t d s n E) (hb:w.heap[bn]?=some (.cells #[.string nm] 9)) (ht:w.heap[bt]?=some (.cells #[.pointer (some ⟨t,0,none⟩)] 24)) (hm:(bn∈R∧bn≠t∧w0.heap.size≤bn)∧(bt∈R∧bt≠t∧w0.heap.size≤bt)) (hE:E.length≤600) (hK:kT E)
  (hos:((aT (aC 3 0 0) E).takeWhile fun e=>eX e.1 3 0)=kD 0 os) (hok:∀ (i:Nat) (o:aN),os[i]?=some o→dV ((i:Int) + 1) o) (hnm:nm.size≤140737488351232) (hr:aY nm=true) (hf:cE nm=f) (hres:wM os f id p e) :
  Calls Tryz.prog 63 #[.pointer (some ⟨bn,0,none⟩),.pointer (some ⟨bt,0,none⟩)] w fun e' w' => e'=.returned (.tuple #[.agg #[.int .i64 id,.string p.nm,.int .i64 p.li,.int .i64 p.ha],.int .i64 e])∧TxS w0 R w' t d s n E∧KeptT R t w w' := by
 have FO:=Hd (fun w=>by have:=eJ nm w hnm; rw [hr,hf] at this; exact this);have HV:=Hd hres;have HOS:=Hd (And.intro hos hok);have HEK:=Hd (And.intro hE hK);clear hres hos hok hnm hr hf hE hK;obtain ⟨n0,hn0⟩:∃ n0,w.heap.size=n0:=⟨_,rfl⟩
 obtain ⟨x1,hx1⟩:∃ x,w.alloc (.cells #[.int .i64 0,.string ⟨#[]⟩,.int .i64 0,.int .i64 0] 42)=x:=⟨_,rfl⟩
 obtain ⟨x2,hx2⟩:∃ x,x1.alloc (.cells #[.int .i64 0] 27)=x:=⟨_,rfl⟩
 obtain ⟨s1,m1,b1⟩:=jE hx1 hn0;obtain ⟨s2,m2,b2⟩:=jE hx2 s1;have b12:Below w.heap.size w x2:=b1.trans (b2.mono (by omega));have n1:=(b2.block n0 (by omega)).trans m1;have hl:=h.lt;obtain ⟨F,hF,hnF,hFl⟩:=h.said;have lF3:=hF.lt;have hn2:=(b12.block bn (hl.1 bn hm.1.1)).trans hb;have ht2:=(b12.block bt (hl.1 bt hm.2.1)).trans ht;have HF:=Hd (And.intro hF (And.intro hnF (And.intro lF3 (And.intro hl h.from))));have HB:=Hd (And.intro s2 (And.intro n1 (And.intro m2 (And.intro b12 ht2))));have HX:=Hd (And.intro hx1 hx2);have HN:=Hd hn0;have HM:=Hd hm
 have ct:=(aD hn2).1;clear h hb ht hx1 hx2 s1 s2 m1 m2 b1 b2 b12 n1 hl hF hnF hFl lF3 hn2 ht2 hm;refine (callsIn_wide (n:=0)).1 (callsIn_of_wp_marks (F:=Fence.wide) (n:=0) Tryz.func63 rfl trivial (wpIn_wide.2 ?_) rfl);simp only [Tryz.ntmps63,List.size_toArray,List.length_cons,List.length_nil,Nat.reduceAdd,Nat.reduceSub,Array.replicate_succ,Array.replicate_zero,List.push_toArray,List.append_toArray,List.nil_append,List.cons_append];go_upto_region 1 with fail
 try rw [HX.out.1,HX.out.2]
 try rw [hn0]
 clear hn0;go_wp2_with fail;refine (FO.out _).mono ?_;rintro e w3 ⟨rfl,b3⟩;obtain ⟨nf,hnf⟩:∃ n,w3.heap.size=n:=⟨_,rfl⟩
 obtain ⟨x4,hx4⟩:∃ x,w3.alloc (.cells #[.string f] 9)=x:=⟨_,rfl⟩
 obtain ⟨s4,m4,b4⟩:=jE hx4 hnf;have q4:Below w.heap.size w x4:=(HB.out.2.2.2.1.trans (b3.mono HB.out.2.2.2.1.size)).trans (b4.mono (Nat.le_trans HB.out.2.2.2.1.size b3.size));have c24:Below x2.heap.size x2 x4:=b3.trans (b4.mono b3.size);have t4:=jN HB.out.2.2.2.2 c24;have i0:=jN HB.out.2.1 c24;have i1:=jN HB.out.2.2.1 c24;have nfl:n0 + 1 < nf:=by have:=b3.size; have:=HB.out.1; omega
 have H4:=Hd (And.intro q4 (And.intro s4 (And.intro i0 (And.intro i1 (And.intro m4 nfl)))));have X4:=Hd (And.intro hx4 hnf);have c4:=(aD t4).1;clear b3 s4 m4 b4 q4 c24 t4 i0 i1 nfl hx4 hnf ct;go_upto_region 2 with fail
 rw [X4.out.1,X4.out.2];go_wp2_with fail;refine (MN _ t 3 0 0).mono ?_;rintro e w5 ⟨rfl,m5,q5,s5⟩;clear c4;go_wp2_with fail;obtain ⟨nb,hnb⟩:∃ n,x4.heap.size=n:=⟨_,rfl⟩
 rw [hnb] at m5 q5 s5 ⊢;have h4:=H4.out;have hF:=HF.out;have q5w:Below w.heap.size w w5:=h4.1.trans (q5.mono (by rw [← hnb]; exact h4.1.size));have hT5:=hF.1.below q5w;have hn:=HN.out;have hnb' : nf + 1=nb:=by rw [← hnb]; exact h4.2.1.symm
 have f0:=hF.2.2.2.2.size;have lF:=hT5.lt;have hnF' : ∀ k,F k→k < n0:=fun k hk=>by have:=hF.2.2.1.1 k hk; omega
 have htn:=hF.2.2.2.1.2;have hit:=MM hT5 HEK.out.1 HEK.out.2.1 HEK.out.2.2 m5 ⟨⟨fun e=>by have:=hnF' _ e; omega,by omega,by omega⟩,⟨fun e=>by have:=hnF' _ e; omega,by omega,by omega⟩⟩ (by decide:bP 3 0 0=true) (rfl:aC 3 0 0=aC 3 0 0);rw [HOS.out.1] at hit;have i5:NmI n0 nf f os [] (fun k=>k∈[n0,n0 + 1,nf]∨k∈([]:List Nat)) w5:=⟨fun k=>Iff.rfl,(q5.block _ (by omega)).trans h4.2.2.1,(q5.block _ (by omega)).trans h4.2.2.2.1,(q5.block _ (by omega)).trans h4.2.2.2.2.1,fun j q hj=>by simp at hj⟩
 have TSO:∀ (Wz:World) (D:Nat),TxF w0 F Wz t d s n E→Frm (fun k=>(k∈[n0,n0 + 1,nf]∨k∈([]:List Nat))∨GN w0 F t (nb + 1) (nb + 2) (nb + 3) nb k) w5 Wz→w5.heap.size≤D→Wz.heap[D]?=some (.deferred (some []))→TxS w0 (D :: ([n0,n0 + 1,nf] ++ R)) Wz t d s n E∧KeptT R t w Wz:=fun Wz D hV hfr hDz hdef =>
  tso hF.2.2.2.1 hF.2.2.2.2 hF.2.1 (fun k hk=>by rw [hn]; exact hnF' k hk) q5w (fun k hk=>by
   simp only [List.mem_cons,List.not_mem_nil,or_false] at hk;rw [s5];omega) (fun k hk=>by cases hk) hV hfr (fun k hk=>by
   unfold GN at hk
   rcases hk with hk | hk | hk | hk | hk | hk | hk
   ·exact .inl hk
   ·exact .inr (.inl hk)
   all_goals first | exact .inr (.inr (.inl hk)) | exact .inr (.inr (.inr (by omega)))) hDz (zl hdef)
 refine (wpIn_wide (n:=0)).1 (vC rfl (enters_of Tryz.func133 (by kernel_rfl) rfl) hit (fun Wz lz o hz hv=>?_) (fun k hk=>?_) (by intro _; rfl) (fun k=>k∈[n0,n0 + 1,nf]∨k∈([]:List Nat)) (fun k hk hg=>?_) (NmI n0 nf f os) (fun c pre D Wz=>c=.ret∧NmX n0 nf f os pre D Wz) NmI.on (fun c s D A B hh ho=>⟨hh.1,NmX.on s D A B hh.2 ho⟩) NmI.lt (fun c s D A hh=>NmX.lt s D A hh.2) i5 ?_ ?_ ?_)
 ·exact hv.frm (cJ Wz lz o) fun k hk=>by subst hk; exact ⟨fun e=>by have:=lF.1 _ e; omega,by have:=lF.2.1; omega,by have:=hT5.from.size; omega⟩
 ·unfold GN at hk
  rcases hk with hk | hk | hk | hk | hk | hk | hk
  ·exact lF.1 _ hk
  ·have:=lF.2.1; omega
  all_goals (have:=hT5.from.size; omega)
 ·simp only [List.mem_cons,List.not_mem_nil,or_false] at hk
  unfold GN at hg;have h5:=hnF' k
  rcases hg with hg | hg | hg | hg | hg | hg | hg
  ·have:=h5 hg; omega
  all_goals omega
 ·intro l' pre x D Wz hpre hI hD hz hnl hll
  obtain ⟨xk,xv⟩:=x;obtain ⟨m,hmm⟩:∃ m,pre.length=m:=⟨_,rfl⟩
  have hat:(kD 0 os)[m]?=some (xk,xv):=by
   obtain ⟨r,hr⟩:=hpre;rw [← hr,List.append_assoc,List.getElem?_append_right (by omega),hmm,Nat.sub_self]
   rfl
  rw [qE,Nat.zero_add] at hat
  obtain ⟨q,hq⟩:∃ q,os[m]?=some q:=by
   cases hq:os[m]? with
   | none=>rw [hq] at hat; cases hat
   | some q=>exact ⟨q,rfl⟩
  rw [hq] at hat;have hat' := Option.some.inj hat;obtain ⟨rfl,rfl⟩:=Prod.mk.inj hat';have ho:=HOS.out.2 m q hq;have hid:=oB ho;have e0:spB (aC 3 0 ((m:Int) + 1))=(m:Int) + 1:=(oI (k3 (by omega) (by omega))).2.2;obtain ⟨y,hy⟩:∃ y:Int,(m:Int) + 1=y:=⟨_,rfl⟩
  obtain ⟨xs,hxs⟩:∃ xs,eE q=xs:=⟨_,rfl⟩
  rw [hy] at e0 ho hid;have ID:=Hd (fun w=>wE y true w (by unfold inB; simp; omega));have TA:=Hd (fun w=>by have:=tQ y q w ho; rw [hxs] at this; exact this);have HQ:=Hd (And.intro hq (And.intro hy hmm));unfold aBD;simp only [hy,e0,hxs];clear hat hat' hq ho hid e0 hy hxs hmm
  gi_wp2_with fail
  refine ⟨Br,fun Wb hfb hIb=>?_⟩;have HI:=Hd hIb;clear hIb hfb
  gi_wp2_with fail
  refine ⟨trivial,rfl,?_⟩;refine (CallsIn.inRound l' (callsIn_wide.2 (ID.out _))).mono ?_;rintro e w8 ⟨rfl,hw8⟩;have HW8:=Hd hw8;clear hw8
  gi_wp2_with fail
  refine ⟨trivial,rfl,?_⟩;refine (CallsIn.inRound l' (callsIn_wide.2 (TA.out _))).mono ?_;rintro e w9 ⟨rfl,b9⟩;obtain ⟨bx,hbx⟩:∃ b,w9.heap.size=b:=⟨_,rfl⟩
  have ma:(w9.alloc (.cells #[.int .i64 y,.string q.nm,.int .i64 q.li,.int .i64 q.ha] 42)).heap[bx]?=some (.cells #[.int .i64 y,.string q.nm,.int .i64 q.li,.int .i64 q.ha] 42):=by rw [← hbx]; exact han w9 _
  have ob:Below Wb.heap.size Wb (w9.alloc (.cells #[.int .i64 y,.string q.nm,.int .i64 q.li,.int .i64 q.ha] 42)):=by
   have hx:=HW8.out;subst hx;exact b9.trans ((aB w9 _).mono b9.size)
  have I9:=NmI.on _ _ _ _ HI.out (.of_frm (G:=fun _=>False) (Frm.of_below ob) fun _ _ h=>h);have HI9:=Hd I9;have HOB:=Hd ob;obtain ⟨⟨u0,u1,u2,u3⟩,_⟩:=cQ ma;obtain ⟨i1,i2,i3,i6,i7⟩:=I9;have kf:=(aD i6).1;rw [hbx] at *;clear b9 ma ob i1 i6 i7
  by_cases hqf:q.nm=f
  ·have hqe:(q.nm.toList == f.toList)=true:=by rw [hqf]; simp
   obtain ⟨⟨d0,d1,d2,d3⟩,g0,g1,g2,g3⟩:=cQ i2;obtain ⟨c1,g9⟩:=aD i3;obtain ⟨wA,hwA⟩:∃ x,w9.alloc (.cells #[.int .i64 y,.string q.nm,.int .i64 q.li,.int .i64 q.ha] 42)=x:=⟨_,rfl⟩
   have RX:Hid (∃ D' : Nat→Prop,Own1 D Wb D' ((stW (w9.alloc (.cells #[.int .i64 y,.string q.nm,.int .i64 q.li,.int .i64 q.ha] 42)) n0 (.int .i64 y) (.string q.nm) (.int .i64 q.li) (.int .i64 q.ha)).setCell ⟨n0 + 1,0,none⟩ (.int .i64 0))∧∀ lz:List Ent,NmX n0 nf f os lz D' ((stW (w9.alloc (.cells #[.int .i64 y,.string q.nm,.int .i64 q.li,.int .i64 q.ha] 42)) n0 (.int .i64 y) (.string q.nm) (.int .i64 q.li) (.int .i64 q.ha)).setCell ⟨n0 + 1,0,none⟩ (.int .i64 0))):=Hd (by
    obtain ⟨i1,i2,i3,i6,i7⟩:=HI9.out;obtain ⟨n1,n2⟩:=BS i2 (.int .i64 y) (.string q.nm) (.int .i64 q.li) (.int .i64 q.ha);have lt:∀ {k:Nat} {o:Obj},(w9.alloc (.cells #[.int .i64 y,.string q.nm,.int .i64 q.li,.int .i64 q.ha] 42)).heap[k]?=some o→k < (w9.alloc (.cells #[.int .i64 y,.string q.nm,.int .i64 q.li,.int .i64 q.ha] 42)).heap.size:=fun h=>(zl h)
    refine ⟨D,⟨((Frm.of_below (F:=fun _=>False) HOB.out).mono fun _ h=>h.elim).trans ((Frm.mono (G:=D) n2 fun k hk=>by rw [show k=n0 from hk]; exact (i1 _).2 (by simp)).setCell ⟨n0 + 1,0,none⟩ _ (.inl ((i1 _).2 (by simp)))) (fun k hk=>.inl hk),fun k hk=>.inl hk⟩,fun lz=>⟨i1,m,q,?_,?_,?_,HQ.out.1,hqf,fun j r hj hr=>i7 j r (by rw [HQ.out.2.2]; exact hj) hr⟩⟩
    ·rw [heap_setCell_other _ _ _ _ (by show n0≠n0 + 1; omega),HQ.out.2.1]
     exact n1
    ·rw [hss _ _ 0 _ _ _ ((n2.block _ (lt i3) (by omega)).trans i3)]
     rfl
    ·have hne:nf≠n0 + 1∧nf≠n0:=by have:=H4.out.2.2.2.2.2; omega
     rw [heap_setCell_other _ _ _ _ (by show nf≠n0 + 1; exact hne.1)];exact (n2.block _ (lt i6) hne.2).trans i6)
   unfold stW at RX;clear hqf hwA i2 i3
   gi_wp2_with fail
   exact (let ⟨D9,k1,k2⟩:=RX.out; ⟨D9,k1,rfl,k2 _⟩)
  ·have hqe:(q.nm.toList == f.toList)=false:=by rw [Lib.bytes_beq_false_iff]; exact hqf
   have HQF:=Hd hqf;clear hqf i2 i3
   gi_wp2_with fail
   refine ⟨D,⟨(Frm.of_below (F:=fun _=>False) HOB.out).mono fun _ h=>h.elim,fun k hk=>.inl hk⟩,HI9.out.1,HI9.out.2.1,HI9.out.2.2.1,HI9.out.2.2.2.1,fun j r hj hr=>?_⟩;rw [List.length_append,List.length_singleton,HQ.out.2.2] at hj
   by_cases hjm:j < m
   ·exact HI9.out.2.2.2.2 j r (by rw [HQ.out.2.2]; exact hjm) hr
   ·have e:j=m:=by omega
    subst e;rw [HQ.out.1] at hr;injection hr with hr;subst hr;exact HQF.out
 ·intro D C' Wz hDz hI hV hfr hC' hnD hdef
  obtain ⟨j1,j2,j3,j6,j7⟩:=hI;obtain ⟨T0,K0⟩:=TSO Wz D hV hfr hDz hdef;rw [yT] at j7
  have hv:id=0∧p=⟨⟨#[]⟩,0,0⟩∧e=3:=by
   rcases HV.out with ⟨i,g1,_,g3,_⟩ | ⟨_,g⟩
   ·exact absurd g3 (j7 i p (List.getElem?_eq_some_iff.1 g1).1 g1)
   ·exact g
  obtain ⟨rfl,rfl,rfl⟩:=hv
  have hDn:n0≠D∧n0 + 1≠D∧w0.heap.size≤D∧w0.heap.size≤n0∧D≠t∧n0≠t∧n0 + 1≠t:=by
   have:=q5.size;omega
  have hRD:∀ k∈R,k≠n0∧k≠n0 + 1∧k≠D:=fun k hk=>by have:=hF.2.2.2.1.1 k hk; have:=q5.size; omega
  obtain ⟨⟨c0,c1,c2,c3⟩,g0,g1,g2,g3⟩:=cQ j2;obtain ⟨c9,g9⟩:=aD j3;obtain ⟨n1,n2⟩:=BS j2 (.int .i64 0) (.string ⟨#[]⟩) (.int .i64 0) (.int .i64 0);obtain ⟨y6,hy6⟩:∃ y6,(stW Wz n0 (.int .i64 0) (.string ⟨#[]⟩) (.int .i64 0) (.int .i64 0)).setCell ⟨n0 + 1,0,none⟩ (.int .i64 3)=y6:=⟨_,rfl⟩
  have f6:Frm (fun k=>k=n0∨k=n0 + 1) Wz y6:=by rw [← hy6]; exact (Frm.mono (G:=fun k=>k=n0∨k=n0 + 1) n2 fun k hk=>.inl hk).setCell ⟨n0 + 1,0,none⟩ _ (.inl (.inr rfl))
  have s0:y6.heap[n0]?=some (.cells #[.int .i64 0,.string ⟨#[]⟩,.int .i64 0,.int .i64 0] 42):=by
   rw [← hy6,heap_setCell_other _ _ _ _ (by show n0≠n0 + 1; omega)];exact n1
  have s1:y6.heap[n0 + 1]?=some (.cells #[.int .i64 3] 27):=by
   rw [← hy6,hss _ _ 0 _ _ _ ((n2.block _ (zl j3) (by omega)).trans j3)]
   rfl
  have T6:TxS w0 (D :: ([n0,n0 + 1,nf] ++ R)) y6 t d s n E:=by
   rw [← hy6];exact (T0.turn (k:=n0) (by simp) (by omega) (by omega) n2).turn (k:=n0 + 1) (by simp) (by omega) (by omega) ((Frm.refl (fun k=>k=n0 + 1) _).setCell _ _ (.inl rfl))
  have d6:=(f6.block D (zl hdef) (by omega)).trans hdef;have HMK:Hid (Marks y6 [D]):=Hd ((Marks.nil y6).cons (by simp) d6)
  have FIN:Hid (∀ W', Frm (fun k=>k∈[D]) y6 W'→W'.heap[n0]?=some (.cells #[.int .i64 0,.string ⟨#[]⟩,.int .i64 0,.int .i64 0] 42)∧W'.cell? ⟨n0 + 1,0,none⟩=some (.int .i64 3)∧TxS w0 R W' t d s n E∧KeptT R t w W'):=Hd fun W' hm=>by
   have lt6:=T6.lt.1;refine ⟨(hm.block n0 (lt6 n0 (by simp)) (by simpa using hDn.1)).trans s0,(aD ((hm.block (n0 + 1) (lt6 (n0 + 1) (by simp)) (by simpa using hDn.2.1)).trans s1)).1,?_,fun k hk hn=>?_⟩
   ·exact (T6.turn (k:=D) (by simp) (by omega) (by omega) (hm.mono fun k hk=>by simpa using hk)).sub fun k hk=>by simp [hk]
   ·have hy:=hRD k hk
    exact (hm.block k (lt6 k (by simp [hk])) (by simpa using hy.2.2)).trans ((f6.block k (T0.lt.1 k (by simp [hk])) (by omega)).trans (K0 k hk hn))
  have HY6:=Hd hy6;unfold stW at HY6;clear hit hfr hC' hnD hdef j1 j2 j3 j6 j7 hV i5 TSO T0 K0 n1 n2 f6 s0 s1 T6 d6 hy6 hDn hRD hDz hF hnF' h4 q5w lF htn f0 hnb' hn hnb hT5 m5 q5 s5;go_wp2_with fail;rw [HY6.out];refine kE [D] _ HMK.out fun W' hm=>?_
  obtain ⟨u0,u1,u2,u3⟩:=FIN.out W' hm;exact ⟨_,gV (fn:=Tryz.f63) rfl _ W' n0 42 _ (0,0) _ _ _ rfl u0 Tryz.underlying42 rfl dD rfl (rX rfl Tryz.underlying27 u1),rfl,u2,u3⟩
 ·rintro D c pre C' Wz hDz hpre ⟨rfl,j1,m,q,j2,j3,j6,j7,j8,j9⟩ hV hfr hC' hnD hdef
  obtain ⟨T0,K0⟩:=TSO Wz D hV hfr hDz hdef
  have hv:id=(m:Int) + 1∧p=q∧e=0:=by
   rcases HV.out with ⟨i,g1,g2,g3,g4,g5⟩ | ⟨g,_⟩
   ·have him:i=m:=by
     rcases Nat.lt_trichotomy i m with hx | hx | hx
     ·exact absurd g3 (j9 i p hx g1)
     ·exact hx
     ·exact absurd j8 (g5 m q hx j7)
    subst him;rw [g1] at j7;exact ⟨g2,Option.some.inj j7,g4⟩
   ·exact absurd j8 (g m q j7)
  obtain ⟨rfl,rfl,rfl⟩:=hv
  have hDn:n0≠D∧n0 + 1≠D∧w0.heap.size≤D∧w0.heap.size≤n0∧D≠t∧n0≠t∧n0 + 1≠t:=by
   have:=q5.size;omega
  have hRD:∀ k∈R,k≠n0∧k≠n0 + 1∧k≠D:=fun k hk=>by have:=hF.2.2.2.1.1 k hk; have:=q5.size; omega
  refine wpIn_wide.2 ?_;have HMK:Hid (Marks Wz [D]):=Hd ((Marks.nil Wz).cons (by simp) hdef)
  have FIN:Hid (∀ W', Frm (fun k=>k∈[D]) Wz W'→W'.heap[n0]?=some (.cells #[.int .i64 ((m:Int) + 1),.string p.nm,.int .i64 p.li,.int .i64 p.ha] 42)∧W'.cell? ⟨n0 + 1,0,none⟩=some (.int .i64 0)∧TxS w0 R W' t d s n E∧KeptT R t w W'):=Hd fun W' hm=>by
   have lt6:=T0.lt.1;refine ⟨(hm.block n0 (lt6 n0 (by simp)) (by simpa using hDn.1)).trans j2,(aD ((hm.block (n0 + 1) (lt6 (n0 + 1) (by simp)) (by simpa using hDn.2.1)).trans j3)).1,?_,fun k hk hn=>?_⟩
   ·exact (T0.turn (k:=D) (by simp) (by omega) (by omega) (hm.mono fun k hk=>by simpa using hk)).sub fun k hk=>by simp [hk]
   ·have hy:=hRD k hk
    exact (hm.block k (lt6 k (by simp [hk])) (by simpa using hy.2.2)).trans (K0 k hk hn)
  clear hit hfr hC' hnD hdef j1 j2 j3 j6 j7 j8 j9 hV i5 TSO T0 K0 hDn hRD hDz hF hnF' h4 q5w lF htn f0 hnb' hn hnb hT5 m5 q5 s5 hpre;go_wp2_with fail;refine kE [D] _ HMK.out fun W' hm=>?_
  obtain ⟨u0,u1,u2,u3⟩:=FIN.out W' hm;exact ⟨_,gV (fn:=Tryz.f63) rfl _ W' n0 42 _ (0,0) _ _ _ rfl u0 Tryz.underlying42 rfl dD rfl (rX rfl Tryz.underlying27 u1),rfl,u2,u3⟩
end
theorem JG {w0 w:World} {R:List Nat} {t d s:Nat} {E:List Ent} {pa ob oi ri ba de ex li ha hb v id:Int} {nm X:ByteArray} (h:TxS w0 R w t d s 640 E) (hE:E.length≤290) (hn:NumE E 10376293541461622785 v) (hv:v < 16777215) (hid:v + 1=id) (hq:ha < li) (hhb:ha + 1=hb) (hl:0≤ha∧li≤1000) (hc:fO id ⟨pa,ob,oi,ri,ba,de,ex,0,false⟩) (ho:dV oi ⟨nm,li,hb⟩) (hX:Str (aJ id 3)=X) :
  Calls Tryz.prog 76 #[.pointer (some ⟨t,0,none⟩),.agg #[.int .i64 0,.int .i64 pa,.int .i64 ob,.int .i64 0,.int .i64 ri,.int .i64 ba,.int .i64 de,.int .i64 ex,.int .i64 0,.bool false],.agg #[.int .i64 oi,.string nm,.int .i64 li,.int .i64 ha]] w fun e w' => e=.returned (.tuple #[.int .i64 id,.int .i64 0])∧TxS w0 R w' t d s 640 (nG E id ⟨pa,ob,oi,ri,ba,de,ex,0,false⟩ oi ⟨nm,li,hb⟩)∧KeptT R t w w' := by
 obtain ⟨a1,a2,a3,a4,a5,a6,a7⟩:=h.box (.cells #[.int .i64 0,.int .i64 pa,.int .i64 ob,.int .i64 0,.int .i64 ri,.int .i64 ba,.int .i64 de,.int .i64 ex,.int .i64 0,.bool false] 53);obtain ⟨bc,hbc⟩:∃ b,w.heap.size=b:=⟨_,rfl⟩
 obtain ⟨x1,hx1⟩:∃ x,w.alloc (.cells #[.int .i64 0,.int .i64 pa,.int .i64 ob,.int .i64 0,.int .i64 ri,.int .i64 ba,.int .i64 de,.int .i64 ex,.int .i64 0,.bool false] 53)=x:=⟨_,rfl⟩
 rw [hx1] at a1 a2 a3 a5;rw [hbc] at a1 a3 a4 a5 a6 a7;obtain ⟨b1,b2,b3,b4,b5,b6,b7⟩:=a1.box (.cells #[.int .i64 oi,.string nm,.int .i64 li,.int .i64 ha] 42);obtain ⟨bo,hbo⟩:∃ b,x1.heap.size=b:=⟨_,rfl⟩
 obtain ⟨x2,hx2⟩:∃ x,x1.alloc (.cells #[.int .i64 oi,.string nm,.int .i64 li,.int .i64 ha] 42)=x:=⟨_,rfl⟩
 rw [hx2] at b1 b2 b3 b5;rw [hbo] at b1 b3 b4 b5 b6 b7;have mc:=(b2 bc (by simp) a4).trans a3;have NU:=Hd (JE b1 (show E.length≤600 by omega) (m:=1) ⟨by decide,by decide⟩ hn hv hid);have HX:=Hd (And.intro hx1 (And.intro hbc (And.intro hx2 (show bc + 1=bo from a5.symm.trans hbo))));have HK:=Hd (a2.trans (b2.sub (R' := R) fun k hk=>by simp [hk]));have HB:=Hd (And.intro mc (And.intro b3 (And.intro a4 (And.intro b4 (And.intro a6 (And.intro b6 (show bo≠bc from fun e=>b7 bc (by simp) e.symm)))))));have e1:¬ li≤ha:=by omega
 have e2:IntKind.i64.wrap (ha + 1)=hb:=by rw [hhb]; exact IntWalk.i64_in _ (by omega)
 obtain ⟨⟨y0,y1,y2,y3⟩,_⟩:=cQ b3;have hrid:=AK hc;have HN:Hid (E.length≤290∧(0≤id∧id≤16777215)∧Str (aJ id 3)=X):=Hd ⟨hE,by omega,hX⟩;have HC:=Hd (And.intro hc ho);have HRK:=Hd (show (∀ k∈R,k≠bc)∧∀ k∈R,k≠bo from ⟨a7,fun k hk=>b7 k (by simp [hk])⟩);clear h hE hn hv hid hq hhb hl hc ho hX a1 a2 a3 a4 a5 a6 a7 b1 b2 b3 b4 b5 b6 b7 mc hx1 hx2 hrid hbc hbo;go_enter Tryz.func76,Tryz.ntmps76;go_upto_region 1 with fail
 rw [HX.out.1,HX.out.2.1,HX.out.2.2.1,HX.out.2.2.2];go_wp2_with fail;refine NU.out.mono ?_;rintro e w3 ⟨rfl,h1,h2⟩;have m3:=(h2 bc (by simp) HB.out.2.2.1).trans HB.out.1;have m4:=(h2 bo (by simp) HB.out.2.2.2.1).trans HB.out.2.1;have T3:=Hd (And.intro h1 (And.intro (HK.out.trans (h2.sub (R' := R) fun k hk=>by simp [hk])) (And.intro m3 m4)));clear h1 h2 NU y0 y1 y2 y3;obtain ⟨⟨y0,y1,y2,y3⟩,_⟩:=cQ m4;obtain ⟨⟨c0,c1,c2,c3,c4,c5,c6,c7,c8,c9⟩,f0,f1,f2,f3,f4,f5,f6,f7,f8,f9⟩:=cK m3;clear m3 m4;go_upto_region 6 with fail
 go_cut [] from 10 (fun wx=>Hid (TxS w0 (bo :: bc :: R) wx t d s 640 E∧KeptT R t w wx∧wx.heap[bc]?=some (.cells #[.int .i64 id,.int .i64 pa,.int .i64 ob,.int .i64 oi,.int .i64 ri,.int .i64 ba,.int .i64 de,.int .i64 ex,.int .i64 0,.bool false] 53)∧wx.heap[bo]?=some (.cells #[.int .i64 oi,.string nm,.int .i64 li,.int .i64 ha] 42)))
 case first =>
  have SA:Hid (∀ wx:World,(wx.heap=((w3.setCell ⟨bc,0,none⟩ (.int .i64 id)).setCell ⟨bc,3,none⟩ (.int .i64 oi)).heap∨wx.heap=((w3.setCell ⟨bc,3,none⟩ (.int .i64 oi)).setCell ⟨bc,0,none⟩ (.int .i64 id)).heap)→Frm (fun k=>k=bc) w3 wx→Hid (TxS w0 (bo :: bc :: R) wx t d s 640 E∧KeptT R t w wx∧wx.heap[bc]?=some (.cells #[.int .i64 id,.int .i64 pa,.int .i64 ob,.int .i64 oi,.int .i64 ri,.int .i64 ba,.int .i64 de,.int .i64 ex,.int .i64 0,.bool false] 53)∧wx.heap[bo]?=some (.cells #[.int .i64 oi,.string nm,.int .i64 li,.int .i64 ha] 42))):=Hd fun wx hw f=>Hd ⟨T3.out.1.turn (k:=bc) (by simp) HB.out.2.2.1 HB.out.2.2.2.2.1 f,fun k hk hn=>(f.block k (T3.out.1.lt.1 k (by simp [hk])) (HRK.out.1 k hk)).trans (T3.out.2.1 k hk hn),by
   rcases hw with e | e
   ·rw [e,hss _ _ 3 _ _ _ (hss _ _ 0 _ _ _ T3.out.2.2.1)]; rfl
   ·rw [e,hss _ _ 0 _ _ _ (hss _ _ 3 _ _ _ T3.out.2.2.1)]; rfl,(f.block bo (T3.out.1.lt.1 bo (by simp)) HB.out.2.2.2.2.2.2).trans T3.out.2.2.2⟩
  have m4:=T3.out.2.2.2;have m3:=T3.out.2.2.1;have nbc:=HB.out.2.2.2.2.2.2;obtain ⟨⟨p0,_⟩,_⟩:=cQ (show (w3.setCell ⟨bc,0,none⟩ (.int .i64 id)).heap[bo]?=some (.cells #[.int .i64 oi,.string nm,.int .i64 li,.int .i64 ha] 42) from (heap_setCell_other _ _ _ _ nbc).trans m4)
  obtain ⟨⟨r0,r1,r2,r3,r4,r5,r6,r7,r8,r9⟩,s0,s1,s2,s3,s4,s5,s6,s7,s8,s9⟩:=cK (show (w3.setCell ⟨bc,0,none⟩ (.int .i64 id)).heap[bc]?=some (.cells #[.int .i64 id,.int .i64 pa,.int .i64 ob,.int .i64 0,.int .i64 ri,.int .i64 ba,.int .i64 de,.int .i64 ex,.int .i64 0,.bool false] 53) by rw [hss _ _ 0 _ _ _ m3]; rfl)
  obtain ⟨⟨u0,u1,u2,u3,u4,u5,u6,u7,u8,u9⟩,v0,v1,v2,v3,v4,v5,v6,v7,v8,v9⟩:=cK (show (w3.setCell ⟨bc,3,none⟩ (.int .i64 oi)).heap[bc]?=some (.cells #[.int .i64 0,.int .i64 pa,.int .i64 ob,.int .i64 oi,.int .i64 ri,.int .i64 ba,.int .i64 de,.int .i64 ex,.int .i64 0,.bool false] 53) by rw [hss _ _ 3 _ _ _ m3]; rfl);clear m3 m4
  go_region
  all_goals
   go_wp2_with fail
   go_meet
   first | exact SA.out _ (.inl rfl) (((Frm.refl (fun k=>k=bc) w3).setCell _ _ (.inl rfl)).setCell _ _ (.inl rfl)).drew | exact SA.out _ (.inr rfl) (((Frm.refl (fun k=>k=bc) w3).setCell _ _ (.inl rfl)).setCell _ _ (.inl rfl)).drew
 case rest =>
  have HW:=hcut;clear hcut T3 HK y0 y1 y2 y3 c0 c1 c2 c3 c4 c5 c6 c7 c8 c9 f0 f1 f2 f3 f4 f5 f6 f7 f8 f9;have m4:=HW.out.2.2.2;obtain ⟨⟨y0,y1,y2,y3⟩,f0,f1,f2,f3⟩:=cQ m4;obtain ⟨wy,hwy⟩:∃ wy,wc.setCell ⟨bo,3,none⟩ (.int .i64 hb)=wy:=⟨_,rfl⟩
  have f7:Frm (fun k=>k=bo) wc wy:=by rw [← hwy]; exact (Frm.refl _ wc).setCell _ _ (.inl rfl)
  have o7:wy.heap[bo]?=some (.cells #[.int .i64 oi,.string nm,.int .i64 li,.int .i64 hb] 42):=by rw [← hwy,hss _ _ 3 _ _ _ m4]; rfl
  have t7:=HW.out.1.turn (k:=bo) (by simp) HB.out.2.2.2.1 HB.out.2.2.2.2.2.1 f7;have c7:=(f7.block bc (HW.out.1.lt.1 bc (by simp)) (Ne.symm HB.out.2.2.2.2.2.2)).trans HW.out.2.2.1;have k7:KeptT R t w wy:=fun k hk hn=>(f7.block k (HW.out.1.lt.1 k (by simp [hk])) (HRK.out.2 k hk)).trans (HW.out.2.1 k hk hn)
  have HY:=Hd hwy;have T7:=Hd (And.intro t7 (And.intro k7 (And.intro c7 o7)));have GV:=Hd (AG t7 (show E.length≤300 by have:=HN.out.1; omega) (m:=1) rfl HN.out.2.1 HN.out.2.2);clear m4 f7 o7 t7 c7 k7 hwy HW;go_upto_region 8 with fail
  rw [HY.out];clear y0 y1 y2 y3 f0 f1 f2 f3;go_wp2_with fail;refine GV.out.mono ?_;rintro e w8 ⟨rfl,h1,h2⟩;have mc:=(h2 bc (by simp) HB.out.2.2.1).trans T7.out.2.2.1;have mo:=(h2 bo (by simp) HB.out.2.2.2.1).trans T7.out.2.2.2;have PC:=Hd (UH (c:=⟨pa,ob,oi,ri,ba,de,ex,0,false⟩) h1 (show (aU (aC 9 0 1) X E).length≤300 by have:=bK (aC 9 0 1) X E; have:=HN.out.1; omega) HC.out.1 rfl (rfl:aC 1 0 id=aC 1 0 id));have T8:=Hd (And.intro (T7.out.2.1.trans (h2.sub (R' := R) fun k hk=>by simp [hk])) (And.intro mc mo))
  obtain ⟨⟨c0,c1,c2,c3,c4,c5,c6,c7,c8,c9⟩,_⟩:=cK mc;clear h1 h2 mc mo GV;go_wp2_with fail;refine PC.out.mono ?_;rintro e w9 ⟨rfl,h1,h2⟩;have mc:=(h2 bc (by simp) HB.out.2.2.1).trans T8.out.2.1;have mo:=(h2 bo (by simp) HB.out.2.2.2.1).trans T8.out.2.2
  have PO:=Hd (AE (p:=⟨nm,li,hb⟩) h1 (show (aU (aC 1 0 id) (dO ⟨pa,ob,oi,ri,ba,de,ex,0,false⟩) (aU (aC 9 0 1) X E)).length≤300 by have l1:=bK (aC 9 0 1) X E; have l2:=bK (aC 1 0 id) (dO ⟨pa,ob,oi,ri,ba,de,ex,0,false⟩) (aU (aC 9 0 1) X E); have l3:=bK (aC 3 0 oi) (eE ⟨nm,li,hb⟩) (aU (aC 1 0 id) (dO ⟨pa,ob,oi,ri,ba,de,ex,0,false⟩) (aU (aC 9 0 1) X E)); have l4:=bK (aC 5 ex id) ⟨#[]⟩ (aU (aC 3 0 oi) (eE ⟨nm,li,hb⟩) (aU (aC 1 0 id) (dO ⟨pa,ob,oi,ri,ba,de,ex,0,false⟩) (aU (aC 9 0 1) X E))); have:=HN.out.1; omega) HC.out.2 rfl (rfl:aC 3 0 oi=aC 3 0 oi))
  have T9:=Hd (And.intro (T8.out.1.trans (h2.sub (R' := R) fun k hk=>by simp [hk])) (And.intro mc mo));obtain ⟨⟨y0,y1,y2,y3⟩,_⟩:=cQ mo;clear h1 h2 mc mo PC c0 c1 c2 c3 c4 c5 c6 c7 c8 c9;go_wp2_with fail;refine PO.out.mono ?_;rintro e wb ⟨rfl,h1,h2⟩;have mc:=(h2 bc (by simp) HB.out.2.2.1).trans T9.out.2.1;have TB:=Hd (And.intro h1 (And.intro (T9.out.1.trans (h2.sub (R' := R) fun k hk=>by simp [hk])) mc));obtain ⟨⟨c0,c1,c2,c3,c4,c5,c6,c7,c8,c9⟩,_⟩:=cK mc;clear h1 h2 mc PO y0 y1 y2 y3
  by_cases hx0:ex=0
  ·have hx1:(ex == 0)=true:=by simpa using hx0
   have hx2:(ex != 0)=false:=by simpa using hx0
   obtain ⟨wz,hwz⟩:∃ wz,wb=wz:=⟨_,rfl⟩
   subst hwz;have TZ:=Hd TB.out.1;have KZ:=Hd TB.out.2.1
   by_cases hp0:pa=0
   ·have hp1:(pa == 0)=true:=by simpa using hp0
    have hp2:(pa != 0)=false:=by simpa using hp0
    have FIN:Hid (TxS w0 R wb t d s 640 (nG E id ⟨pa,ob,oi,ri,ba,de,ex,0,false⟩ oi ⟨nm,li,hb⟩)∧KeptT R t w wb):=Hd ⟨by
     unfold nG;simp only [if_pos hp0,HN.out.2.2,if_pos hx0];exact TZ.out.sub fun k hk=>by simp [hk],KZ.out⟩
    clear hp0 hx0;go_wp2_with fail;go_ret2;exact ⟨rfl,FIN.out⟩
   ·have hp1:(pa == 0)=false:=by simpa using hp0
    have hp2:(pa != 0)=true:=by simpa using hp0
    have HP0:=Hd (And.intro hp0 hx0);clear hp0 hx0;go_wp2_with fail;refine (iV 2 pa id _ _ rfl).mono ?_;rintro e w9 ⟨rfl,rfl⟩
    have PU:=Hd (tY (key:=aC 2 pa id) (val:=⟨#[]⟩) TZ.out (by have l1:=bK (aC 9 0 1) X E; have l2:=bK (aC 1 0 id) (dO ⟨pa,ob,oi,ri,ba,de,ex,0,false⟩) (aU (aC 9 0 1) X E); have l3:=bK (aC 3 0 oi) (eE ⟨nm,li,hb⟩) (aU (aC 1 0 id) (dO ⟨pa,ob,oi,ri,ba,de,ex,0,false⟩) (aU (aC 9 0 1) X E)); have l4:=bK (aC 5 ex id) ⟨#[]⟩ (aU (aC 3 0 oi) (eE ⟨nm,li,hb⟩) (aU (aC 1 0 id) (dO ⟨pa,ob,oi,ri,ba,de,ex,0,false⟩) (aU (aC 9 0 1) X E))); have:=HN.out.1; omega) (cS _ _ _) (by decide))
    go_wp2_with fail;refine PU.out.mono ?_;rintro e w10 ⟨rfl,h1,h2⟩
    have FIN:Hid (TxS w0 R w10 t d s 640 (nG E id ⟨pa,ob,oi,ri,ba,de,ex,0,false⟩ oi ⟨nm,li,hb⟩)∧KeptT R t w w10):=Hd ⟨by
     unfold nG;simp only [if_neg HP0.out.1,HN.out.2.2,if_pos HP0.out.2];exact h1.sub fun k hk=>by simp [hk],KZ.out.trans (h2.sub fun k hk=>by simp [hk])⟩
    clear h1 h2 PU;go_wp2_with fail;go_ret2;exact ⟨rfl,FIN.out⟩
  ·have hx1:(ex == 0)=false:=by simpa using hx0
   have hx2:(ex != 0)=true:=by simpa using hx0
   have HX0:=Hd hx0;clear hx0;go_wp2_with fail;refine (iV 5 ex id _ _ rfl).mono ?_;rintro e wk ⟨rfl,rfl⟩
   have PU:=Hd (tY (key:=aC 5 ex id) (val:=⟨#[]⟩) TB.out.1 (by have l1:=bK (aC 9 0 1) X E; have l2:=bK (aC 1 0 id) (dO ⟨pa,ob,oi,ri,ba,de,ex,0,false⟩) (aU (aC 9 0 1) X E); have l3:=bK (aC 3 0 oi) (eE ⟨nm,li,hb⟩) (aU (aC 1 0 id) (dO ⟨pa,ob,oi,ri,ba,de,ex,0,false⟩) (aU (aC 9 0 1) X E)); have l4:=bK (aC 5 ex id) ⟨#[]⟩ (aU (aC 3 0 oi) (eE ⟨nm,li,hb⟩) (aU (aC 1 0 id) (dO ⟨pa,ob,oi,ri,ba,de,ex,0,false⟩) (aU (aC 9 0 1) X E))); have:=HN.out.1; omega) (cS _ _ _) (by decide))
   go_wp2_with fail;refine PU.out.mono ?_;rintro e wz ⟨rfl,h1,h2⟩;have mc:=(h2 bc (by simp) HB.out.2.2.1).trans TB.out.2.2;have TZ:=Hd h1;have KZ:=Hd (TB.out.2.1.trans (h2.sub (R' := R) fun k hk=>by simp [hk]));clear c0 c1 c2 c3 c4 c5 c6 c7 c8 c9;obtain ⟨⟨c0,c1,c2,c3,c4,c5,c6,c7,c8,c9⟩,_⟩:=cK mc;have hx0:=HX0.out;clear h1 h2 mc PU
   by_cases hp0:pa=0
   ·have hp1:(pa == 0)=true:=by simpa using hp0
    have hp2:(pa != 0)=false:=by simpa using hp0
    have FIN:Hid (TxS w0 R wz t d s 640 (nG E id ⟨pa,ob,oi,ri,ba,de,ex,0,false⟩ oi ⟨nm,li,hb⟩)∧KeptT R t w wz):=Hd ⟨by
     unfold nG;simp only [if_pos hp0,HN.out.2.2,if_neg hx0];exact TZ.out.sub fun k hk=>by simp [hk],KZ.out⟩
    clear hp0 hx0;go_wp2_with fail;go_ret2;exact ⟨rfl,FIN.out⟩
   ·have hp1:(pa == 0)=false:=by simpa using hp0
    have hp2:(pa != 0)=true:=by simpa using hp0
    have HP0:=Hd (And.intro hp0 hx0);clear hp0 hx0;go_wp2_with fail;refine (iV 2 pa id _ _ rfl).mono ?_;rintro e w9 ⟨rfl,rfl⟩
    have PU:=Hd (tY (key:=aC 2 pa id) (val:=⟨#[]⟩) TZ.out (by have l1:=bK (aC 9 0 1) X E; have l2:=bK (aC 1 0 id) (dO ⟨pa,ob,oi,ri,ba,de,ex,0,false⟩) (aU (aC 9 0 1) X E); have l3:=bK (aC 3 0 oi) (eE ⟨nm,li,hb⟩) (aU (aC 1 0 id) (dO ⟨pa,ob,oi,ri,ba,de,ex,0,false⟩) (aU (aC 9 0 1) X E)); have l4:=bK (aC 5 ex id) ⟨#[]⟩ (aU (aC 3 0 oi) (eE ⟨nm,li,hb⟩) (aU (aC 1 0 id) (dO ⟨pa,ob,oi,ri,ba,de,ex,0,false⟩) (aU (aC 9 0 1) X E))); have:=HN.out.1; omega) (cS _ _ _) (by decide))
    go_wp2_with fail;refine PU.out.mono ?_;rintro e w10 ⟨rfl,h1,h2⟩
    have FIN:Hid (TxS w0 R w10 t d s 640 (nG E id ⟨pa,ob,oi,ri,ba,de,ex,0,false⟩ oi ⟨nm,li,hb⟩)∧KeptT R t w w10):=Hd ⟨by
     unfold nG;simp only [if_neg HP0.out.1,HN.out.2.2,if_neg HP0.out.2];exact h1.sub fun k hk=>by simp [hk],KZ.out.trans (h2.sub fun k hk=>by simp [hk])⟩
    clear h1 h2 PU;go_wp2_with fail;go_ret2;exact ⟨rfl,FIN.out⟩
theorem RV {os:List aN} (hl:os.length≤1000) {e:Ent} (he:e∈kD 0 os):∃ (j:Nat) (o:aN),j < 1000∧os[j]?=some o∧e=(aC 3 0 ((j:Int) + 1),eE o):=by
 obtain ⟨j,hj⟩:=List.mem_iff_getElem?.1 he;rw [qE,Nat.zero_add] at hj
 cases ho:os[j]? with
 | none=>rw [ho] at hj; cases hj
 | some o =>
  rw [ho] at hj;exact ⟨j,o,by have:=(List.getElem?_eq_some_iff.1 ho).1; omega,ho,(Option.some.inj hj).symm⟩
theorem uC:∀ (os:List aN) (i:Nat),i + os.length≤1000→kS (kD i os)∧∀ e∈kD i os,aC 3 0 ((i:Int) + 1)≤e.1
 | [],i,_=>⟨List.Pairwise.nil,fun e he=>by cases he⟩
 | o :: os,i,h=>by
  rw [List.length_cons] at h;obtain ⟨h1,h2⟩:=uC os (i + 1) (by omega);have k1:bP 3 0 ((i:Int) + 1)=true:=k3 (by omega) (by omega);have k2:bP 3 0 (((i + 1:Nat):Int) + 1)=true:=k3 (by omega) (by omega)
  have hlt:aC 3 0 ((i:Int) + 1) < aC 3 0 (((i + 1:Nat):Int) + 1):=by
   unfold aC;rw [if_pos k1,if_pos k2];omega
  rw [kD];obtain ⟨a,ha⟩:∃ a,aC 3 0 ((i:Int) + 1)=a:=⟨_,rfl⟩
  obtain ⟨b,hb⟩:∃ b,aC 3 0 (((i + 1:Nat):Int) + 1)=b:=⟨_,rfl⟩
  rw [ha,hb] at hlt;rw [hb] at h2;rw [ha];refine ⟨List.Pairwise.cons (fun e he=>?_) h1,fun e he=>?_⟩
  ·exact Int.lt_of_lt_of_le hlt (h2 e he)
  ·rcases List.mem_cons.1 he with rfl | he
   ·exact Int.le_refl _
   ·exact Int.le_trans (Int.le_of_lt hlt) (h2 e he)
theorem CpE.owners {E:List Ent} {cs:List (Option aS)} {os:List aN} {ls:List Int} {m:Nat} (h:CpE E cs os ls m):((aT (aC 3 0 0) E).takeWhile fun e=>eX e.1 3 0)=kD 0 os:=by
 have hol:=h.ol;rw [XN h.keys (k3 (by decide) (by decide))];have hs:=uC os 0 (by omega);refine KU (List.Pairwise.filter _ h.keys.1) hs.1 fun x=>?_
 have hf:=zP (fun x=>eX x 3 0 && decide (0≤spB x)) E x;rw [hf]
 cases hg:cU x (kD 0 os) with
 | some v =>
  obtain ⟨j,o,hj,ho,he⟩:=RV (by omega) ((lJ hs.1).2 hg);simp only [Prod.mk.injEq] at he;obtain ⟨hx1,hv1⟩:=he;rw [hx1,hv1];have kk:bP 3 0 ((j:Int) + 1)=true:=k3 (by omega) (by omega);obtain ⟨e1,e2,e3⟩:=oI kk
  have hin:(eX (aC 3 0 ((j:Int) + 1)) 3 0 && decide (0≤spB (aC 3 0 ((j:Int) + 1))))=true:=by
   unfold eX;rw [e1,e2,e3];simp only [beq_self_eq_true,Bool.true_and,decide_eq_true_eq];omega
  rw [if_pos hin,h.own _ (by omega) (by omega)];unfold lE;rw [if_pos (by omega),show ((j:Int) + 1 - 1).toNat=j by omega,ho]
  rfl
 | none =>
  by_cases hp:(eX x 3 0 && decide (0≤spB x))=true
  ·rw [if_pos hp]
   cases hx:cU x E with
   | none=>rfl
   | some v =>
    have hr:0≤x∧x≤18446744073709551615:=h.keys.2 _ ((lJ h.keys.1).2 hx);unfold eX at hp;simp only [Bool.and_eq_true,beq_iff_eq,decide_eq_true_eq] at hp;obtain ⟨q1,q2⟩:=YD hr.1 hr.2 hp.1.1 hp.1.2 rfl;have hb:=eS.1 q2;rw [← q1,h.own _ hb.2.2.1 hb.2.2.2] at hx;obtain ⟨o,ho,_⟩:=Option.map_eq_some_iff.1 hx;unfold lE at ho
    by_cases h1:1≤spB x
    ·rw [if_pos h1] at ho
     have hm:(x,eE o)∈kD 0 os:=by
      refine List.mem_iff_getElem?.2 ⟨(spB x - 1).toNat,?_⟩;rw [qE,Nat.zero_add,ho];simp only [Option.map_some];rw [show (((spB x - 1).toNat:Nat):Int) + 1=spB x by omega,q1]
     rw [(lJ hs.1).1 hm] at hg
     cases hg
    ·rw [if_neg h1] at ho; cases ho
  ·rw [if_neg hp]
theorem CpE.num1 {E:List Ent} {cs:List (Option aS)} {os:List aN} {ls:List Int} {m:Nat} (h:CpE E cs os ls m):NumE E 10376293541461622785 (cs.length:Int):=by
 have h1:cU 10376293541461622785 E=if cs.length=0 then none else some (Str (aJ (cs.length:Int) 3)):=h.n1
 have:=h.cl
 by_cases e:cs.length=0
 ·rw [if_pos e] at h1
  exact .inl ⟨(IW h1).2,by omega⟩
 ·rw [if_neg e] at h1
  exact .inr ⟨(fL h1).2,(fL h1).1,by omega,by omega⟩
theorem CpE.num2 {E:List Ent} {cs:List (Option aS)} {os:List aN} {ls:List Int} {m:Nat} (h:CpE E cs os ls m):NumE E 10376293541461622786 (os.length:Int):=by
 have h1:cU 10376293541461622786 E=if os.length=0 then none else some (Str (aJ (os.length:Int) 3)):=h.n2
 have:=h.ol
 by_cases e:os.length=0
 ·rw [if_pos e] at h1
  exact .inl ⟨(IW h1).2,by omega⟩
 ·rw [if_neg e] at h1
  exact .inr ⟨(fL h1).2,(fL h1).1,by omega,by omega⟩
theorem CpE.getO {E:List Ent} {cs:List (Option aS)} {os:List aN} {ls:List Int} {m:Nat} (h:CpE E cs os ls m) {i:Nat} {o:aN} (ho:os[i]?=some o):VG E ((i:Int) + 1) o:=by
 have hi:=(List.getElem?_eq_some_iff.1 ho).1;have:=h.ol;refine ⟨?_,h.ownOk i o ho⟩;rw [h.own _ (by omega) (by omega)];unfold lE;rw [if_pos (by omega),show ((i:Int) + 1 - 1).toNat=i by omega,ho]
 rfl
theorem CpE.getC {E:List Ent} {cs:List (Option aS)} {os:List aN} {ls:List Int} {m:Nat} (h:CpE E cs os ls m) {i:Nat} {c:aS} (hc:cs[i]?=some (some c)):GG E ((i:Int) + 1) c:=by
 have hi:=(List.getElem?_eq_some_iff.1 hc).1;have:=h.cl;refine ⟨?_,h.capOk i c hc⟩;rw [h.cap _ (by omega) (by omega)];unfold oQ;rw [show ((i:Int) + 1 - 1).toNat=i by omega,hc]
 rfl
theorem mH {w0 w:World} {R:List Nat} {t d s n:Nat} {E:List Ent} {nm f:ByteArray} {os:List aN} {id e:Int} {p:aN} (h:TxS w0 R w t d s n E) (hE:E.length≤600) (hK:kT E)
  (hos:((aT (aC 3 0 0) E).takeWhile fun e=>eX e.1 3 0)=kD 0 os) (hok:∀ (i:Nat) (o:aN),os[i]?=some o→dV ((i:Int) + 1) o) (hnm:nm.size≤140737488351232) (hr:aY nm=true) (hf:cE nm=f) (hres:wM os f id p e) :
  Calls Tryz.prog 23 #[.pointer (some ⟨t,0,none⟩),.string nm] w fun e' w' => e'=.returned (.tuple #[.agg #[.int .i64 id,.string p.nm,.int .i64 p.li,.int .i64 p.ha],.int .i64 e])∧TxS w0 R w' t d s n E∧KeptT R t w w' := by
 rcases (show _∨_ from hres) with hx | hx
 ·obtain ⟨i,g1,g2,g3,g4,g5⟩:=hx
  exact wC h (.inl ⟨g4,rfl,rfl,rfl,rfl⟩) fun R' wa b0 b1 hT g0 g1 gm=>uF hT g1 g0 ⟨gm.2,gm.1⟩ hE hK hos hok hnm hr hf hres
 ·obtain ⟨g1,rfl,rfl,rfl⟩:=hx
  exact wC h (.inr ⟨by decide,rfl,rfl,rfl,rfl⟩) fun R' wa b0 b1 hT g0 g1 gm=>uF hT g1 g0 ⟨gm.2,gm.1⟩ hE hK hos hok hnm hr hf hres
theorem WO {w0 w:World} {R:List Nat} {t d s:Nat} {E:List Ent} {bn bl bt:Nat} {nm:ByteArray} {li:Int} {os:List aN} {f:ByteArray} {v id:Int} (h:TxS w0 R w t d s 640 E) (hb:w.heap[bn]?=some (.cells #[.string nm] 9)) (hl:w.heap[bl]?=some (.cells #[.int .i64 li] 3)) (ht:w.heap[bt]?=some (.cells #[.pointer (some ⟨t,0,none⟩)] 24)) (hm:(bn∈R∧bn≠t∧w0.heap.size≤bn)∧(bl∈R∧bl≠t∧w0.heap.size≤bl)∧(bt∈R∧bt≠t∧w0.heap.size≤bt)) (hE:E.length≤290) (hK:kT E)
  (hos:((aT (aC 3 0 0) E).takeWhile fun e=>eX e.1 3 0)=kD 0 os) (hok:∀ (i:Nat) (o:aN),os[i]?=some o→dV ((i:Int) + 1) o) (hnm:nm.size≤140737488351232) (hr:aY nm=true) (hf:cE nm=f) (hli:0≤li∧li≤1000) (hx:wM os f 0 ⟨⟨#[]⟩,0,0⟩ 3) (hv:NumE E 10376293541461622786 v) (hv1:v < 16777215) (hid:v + 1=id) (ho:dV id ⟨f,li,0⟩) :
  Calls Tryz.prog 68 #[.pointer (some ⟨bn,0,none⟩),.pointer (some ⟨bl,0,none⟩),.pointer (some ⟨bt,0,none⟩)] w fun e' w' => e'=.returned (.tuple #[.int .i64 id,.int .i64 0])∧TxS w0 R w' t d s 640 (LO E id ⟨f,li,0⟩)∧KeptT R t w w' := by
 have fd:=EF nm hr;rw [hf] at fd;have FO:=Hd (fun w=>by have:=eJ nm w hnm; rw [hr,hf] at this; exact this);have NA:Hid (∀ w,TxS w0 R w t d s 640 E→Calls Tryz.prog 23 #[.pointer (some ⟨t,0,none⟩),.string f] w fun e' w' => e'=.returned (.tuple #[.agg #[.int .i64 0,.string ⟨#[]⟩,.int .i64 0,.int .i64 0],.int .i64 3])∧TxS w0 R w' t d s 640 E∧KeptT R t w w'):=Hd fun w h=>mH h (show E.length≤600 by omega) hK hos hok (by rw [fd.size]; exact hnm) fd.right fd.again hx
 have c0:=(aD hb).1;have c1:=(aD hl).1;have HB:=Hd (And.intro hl (And.intro ht hm));have H0:=Hd (And.intro h (And.intro hE hK));have e1:¬ li < 0:=by omega
 have e2:¬ (1000:Int) < li:=by omega
 have HN:=Hd (And.intro hv (And.intro hv1 (And.intro hid ho)));clear h hb hl ht hm hE hK hos hok hnm hr hf hli hx fd hv hv1 hid ho;go_enter Tryz.func68,Tryz.ntmps68;go_wp2_with fail;refine (FO.out _).mono ?_;rintro e w2 ⟨rfl,b2⟩;have m1:=jN HB.out.1 b2;have m2:=jN HB.out.2.1 b2;have T2:=Hd (And.intro (H0.out.1.below b2) (And.intro (H0.out.1.kept b2) (And.intro m1 m2)));clear c0 c1;have c1:=(aD m1).1;have c2:=(aD m2).1;clear b2 m1 m2;go_wp2_with fail;refine (NA.out _ T2.out.1).mono ?_;rintro e w3 ⟨rfl,h1,h2⟩
 obtain ⟨a1,a2,a3,a4,a5,a6,a7⟩:=h1.box (.cells #[.int .i64 0,.string ⟨#[]⟩,.int .i64 0,.int .i64 0] 42);obtain ⟨x1,hx1⟩:∃ x,w3.alloc (.cells #[.int .i64 0,.string ⟨#[]⟩,.int .i64 0,.int .i64 0] 42)=x:=⟨_,rfl⟩
 rw [hx1] at a1 a2 a3 a5;have K1:=Hd (T2.out.2.1.trans (h2.trans a2));have X1:=Hd hx1;have bt1:=(a2 bt HB.out.2.2.2.2.1 HB.out.2.2.2.2.2.1).trans ((h2 bt HB.out.2.2.2.2.1 HB.out.2.2.2.2.2.1).trans T2.out.2.2.2);have bl1:=(a2 bl HB.out.2.2.2.1.1 HB.out.2.2.2.1.2.1).trans ((h2 bl HB.out.2.2.2.1.1 HB.out.2.2.2.1.2.1).trans T2.out.2.2.1);have NU:=Hd (JE (m:=2) (a1.sub (R' := R) fun k hk=>by simp [hk]) (show E.length≤600 by have:=H0.out.2.1; omega) ⟨by decide,by decide⟩ HN.out.1 HN.out.2.1 HN.out.2.2.1);have B1:=Hd (And.intro bt1 bl1)
 clear h1 h2 a1 a2 a3 a4 a5 a6 a7 c1 c2 hx1;have c2:=(aD bt1).1;clear bt1 bl1;go_upto_region 5 with fail
 rw [X1.out];go_wp2_with fail;refine NU.out.mono ?_;rintro e w4 ⟨rfl,h1,h2⟩;have bt1:=(h2 bt HB.out.2.2.2.2.1 HB.out.2.2.2.2.2.1).trans B1.out.1;have bl1:=(h2 bl HB.out.2.2.2.1.1 HB.out.2.2.2.1.2.1).trans B1.out.2;have hid:=oB HN.out.2.2.2;have GV:=Hd (AG (m:=2) h1 (show E.length≤300 by have:=H0.out.2.1; omega) rfl (show 0≤id∧id≤16777215 by omega) rfl);have B2:=Hd (And.intro bt1 (And.intro bl1 (K1.out.trans h2)));clear h1 h2 NU c2 hid;have c2:=(aD bt1).1;clear bt1 bl1;go_wp2_with fail;refine GV.out.mono ?_;rintro e w5 ⟨rfl,h1,h2⟩
 have bt1:=(h2 bt HB.out.2.2.2.2.1 HB.out.2.2.2.2.2.1).trans B2.out.1;have bl1:=(h2 bl HB.out.2.2.2.1.1 HB.out.2.2.2.1.2.1).trans B2.out.2.1;have PO:=Hd (AE (p:=⟨f,li,0⟩) h1 (by have:=bK (aC 9 0 2) (Str (aJ id 3)) E; have:=H0.out.2.1; omega) HN.out.2.2.2 rfl (rfl:aC 3 0 id=aC 3 0 id));have K5:=Hd (B2.out.2.2.trans h2);clear h1 h2 GV c2;have c2:=(aD bt1).1;have c1:=(aD bl1).1;clear bt1 bl1;go_wp2_with fail;refine PO.out.mono ?_;rintro e w6 ⟨rfl,h1,h2⟩
 have FIN:=Hd (And.intro (show TxS w0 R w6 t d s 640 (LO E id ⟨f,li,0⟩) from h1) (K5.out.trans h2));clear h1 h2 PO c1 c2;go_wp2_with fail;go_ret2;exact ⟨rfl,FIN.out⟩
theorem WP {w0 w:World} {R:List Nat} {t d s:Nat} {E:List Ent} {bn bl bt:Nat} {nm:ByteArray} {li:Int} {os:List aN} {f:ByteArray} (h:TxS w0 R w t d s 640 E) (hb:w.heap[bn]?=some (.cells #[.string nm] 9)) (hl:w.heap[bl]?=some (.cells #[.int .i64 li] 3)) (ht:w.heap[bt]?=some (.cells #[.pointer (some ⟨t,0,none⟩)] 24)) (hm:(bn∈R∧bn≠t∧w0.heap.size≤bn)∧(bl∈R∧bl≠t∧w0.heap.size≤bl)∧(bt∈R∧bt≠t∧w0.heap.size≤bt)) (hE:E.length≤290) (hK:kT E)
  (hos:((aT (aC 3 0 0) E).takeWhile fun e=>eX e.1 3 0)=kD 0 os) (hok:∀ (i:Nat) (o:aN),os[i]?=some o→dV ((i:Int) + 1) o) (hnm:nm.size≤140737488351232) (hr:aY nm=true) (hf:cE nm=f) (hli:0≤li∧li≤1000) {i:Int} {p:aN} (hx:wM os f i p 0) :
  Calls Tryz.prog 68 #[.pointer (some ⟨bn,0,none⟩),.pointer (some ⟨bl,0,none⟩),.pointer (some ⟨bt,0,none⟩)] w fun e' w' => e'=.returned (.tuple #[.int .i64 0,.int .i64 14])∧TxS w0 R w' t d s 640 E∧KeptT R t w w' := by
 have fd:=EF nm hr;rw [hf] at fd;have FO:=Hd (fun w=>by have:=eJ nm w hnm; rw [hr,hf] at this; exact this);have NA:Hid (∀ w,TxS w0 R w t d s 640 E→Calls Tryz.prog 23 #[.pointer (some ⟨t,0,none⟩),.string f] w fun e' w' => e'=.returned (.tuple #[.agg #[.int .i64 i,.string p.nm,.int .i64 p.li,.int .i64 p.ha],.int .i64 0])∧TxS w0 R w' t d s 640 E∧KeptT R t w w'):=Hd fun w h=>mH h (show E.length≤600 by omega) hK hos hok (by rw [fd.size]; exact hnm) fd.right fd.again hx
 have c0:=(aD hb).1;have c1:=(aD hl).1;have HB:=Hd (And.intro hl (And.intro ht hm));have H0:=Hd (And.intro h (And.intro hE hK));have e1:¬ li < 0:=by omega
 have e2:¬ (1000:Int) < li:=by omega
 clear h hb hl ht hm hE hK hos hok hnm hr hf hli hx fd;go_enter Tryz.func68,Tryz.ntmps68;go_wp2_with fail;refine (FO.out _).mono ?_;rintro e w2 ⟨rfl,b2⟩;have m1:=jN HB.out.1 b2;have m2:=jN HB.out.2.1 b2;have T2:=Hd (And.intro (H0.out.1.below b2) (And.intro (H0.out.1.kept b2) (And.intro m1 m2)));clear c0 c1;have c1:=(aD m1).1;have c2:=(aD m2).1;clear b2 m1 m2;go_wp2_with fail;refine (NA.out _ T2.out.1).mono ?_;rintro e w3 ⟨rfl,h1,h2⟩;obtain ⟨a1,a2,a3,a4,a5,a6,a7⟩:=h1.box (.cells #[.int .i64 i,.string p.nm,.int .i64 p.li,.int .i64 p.ha] 42)
 obtain ⟨x1,hx1⟩:∃ x,w3.alloc (.cells #[.int .i64 i,.string p.nm,.int .i64 p.li,.int .i64 p.ha] 42)=x:=⟨_,rfl⟩
 rw [hx1] at a1 a2 a3 a5;have K1:=Hd (T2.out.2.1.trans (h2.trans a2));have X1:=Hd hx1;have FIN:=Hd (And.intro (a1.sub (R' := R) fun k hk=>by simp [hk]) K1.out);clear h1 h2 a1 a2 a3 a4 a5 a6 a7 c1 c2 hx1;go_upto_region 5 with fail
 rw [X1.out];go_wp2_with fail;go_ret2;exact ⟨rfl,FIN.out⟩
theorem SQ {w0 w:World} {R:List Nat} {t d s:Nat} {E:List Ent} {bo br bb be bt bw:Nat} {ob ri ba ex ow v id:Int} {p:aN} (h:TxS w0 R w t d s 640 E) (hbo:w.heap[bo]?=some (.cells #[.int .i64 ob] 3)) (hbr:w.heap[br]?=some (.cells #[.int .i64 ri] 3)) (hbb:w.heap[bb]?=some (.cells #[.int .i64 ba] 3)) (hbe:w.heap[be]?=some (.cells #[.int .i64 ex] 3)) (ht:w.heap[bt]?=some (.cells #[.pointer (some ⟨t,0,none⟩)] 24)) (hw:w.heap[bw]?=some (.cells #[.int .i64 ow] 3)) (hm:(bo∈R∧bo≠t∧w0.heap.size≤bo)∧(br∈R∧br≠t∧w0.heap.size≤br)∧(bb∈R∧bb≠t∧w0.heap.size≤bb)∧(be∈R∧be≠t∧w0.heap.size≤be)∧(bt∈R∧bt≠t∧w0.heap.size≤bt)∧(bw∈R∧bw≠t∧w0.heap.size≤bw)) (hE:E.length≤290) (hob:1≤ob∧ob≤16777215) (hmay:(fR ri ri && (inB 0 4294967295 ba && inB 0 268435455 ex))=true)
  (hg:VG E ow p) (hq:p.ha < p.li) (hv:NumE E 10376293541461622785 v) (hv1:v < 16777215) (hid:v + 1=id) (hc:fO id ⟨0,ob,ow,ri,ba,1,ex,0,false⟩) :
  Calls Tryz.prog 74 #[.pointer (some ⟨bo,0,none⟩),.pointer (some ⟨br,0,none⟩),.pointer (some ⟨bb,0,none⟩),.pointer (some ⟨be,0,none⟩),.pointer (some ⟨bt,0,none⟩),.pointer (some ⟨bw,0,none⟩)] w fun e' w' => e'=.returned (.tuple #[.int .i64 id,.int .i64 0])∧TxS w0 R w' t d s 640 (nG E id ⟨0,ob,ow,ri,ba,1,ex,0,false⟩ ow ⟨p.nm,p.li,p.ha + 1⟩)∧KeptT R t w w' := by
 have ID:=Hd (fun w=>wE ob true w (by unfold inB; simp; omega));have MY:=Hd (fun w=>wD ri ba ex true w hmay);have OW:=Hd (mG h (show E.length≤600 by omega) hg);have ho:=eR.1 hg.2;have AD:=Hd (fun (R' : List Nat) (wx:World) (hx:TxS w0 R' wx t d s 640 E)=>JG (pa:=0) (ob:=ob) (oi:=ow) (ri:=ri) (ba:=ba) (de:=1) (ex:=ex) (nm:=p.nm) (li:=p.li) (ha:=p.ha) hx hE hv hv1 hid hq rfl ⟨ho.2.2.2.2.1,ho.2.2.2.1.2⟩ hc (eR.2 ⟨ho.1,ho.2.1,ho.2.2.1,ho.2.2.2.1,by show 0≤p.ha + 1; omega,by show p.ha + 1≤p.li; omega⟩) rfl)
 have HB:=Hd (And.intro hbo (And.intro hbr (And.intro hbb (And.intro hbe (And.intro ht hw)))));have HM:=Hd hm;have c0:=(aD hbo).1;have c1:=(aD hbr).1;have c2:=(aD hbb).1;have c3:=(aD hbe).1;have c4:=(aD ht).1;have c5:=(aD hw).1;obtain ⟨nm,li,ha⟩:=p;clear h hbo hbr hbb hbe ht hw hm hE hob hmay hg hq hv hv1 hid hc ho;go_enter Tryz.func74,Tryz.ntmps74;go_wp2_with fail;refine (ID.out _).mono ?_;rintro e w1 ⟨rfl,rfl⟩;go_wp2_with fail;refine (MY.out _).mono ?_;rintro e w1 ⟨rfl,rfl⟩;go_wp2_with fail;refine OW.out.mono ?_;rintro e w3 ⟨rfl,h1,h2⟩
 obtain ⟨a1,a2,a3,a4,a5,a6,a7⟩:=h1.box (.cells #[.int .i64 ow,.string nm,.int .i64 li,.int .i64 ha] 42);obtain ⟨x1,hx1⟩:∃ x,w3.alloc (.cells #[.int .i64 ow,.string nm,.int .i64 li,.int .i64 ha] 42)=x:=⟨_,rfl⟩
 rw [hx1] at a1 a2 a3 a5;have K1:=Hd (h2.trans a2);clear c0 c1 c2 c3 c4 c5;have c0:=(aD ((K1.out bo HM.out.1.1 HM.out.1.2.1).trans HB.out.1)).1;have c1:=(aD ((K1.out br HM.out.2.1.1 HM.out.2.1.2.1).trans HB.out.2.1)).1;have c2:=(aD ((K1.out bb HM.out.2.2.1.1 HM.out.2.2.1.2.1).trans HB.out.2.2.1)).1;have c3:=(aD ((K1.out be HM.out.2.2.2.1.1 HM.out.2.2.2.1.2.1).trans HB.out.2.2.2.1)).1;have c4:=(aD ((K1.out bt HM.out.2.2.2.2.1.1 HM.out.2.2.2.2.1.2.1).trans HB.out.2.2.2.2.1)).1;obtain ⟨⟨y0,y1,y2,y3⟩,_⟩:=cQ a3;have AX:=Hd (AD.out _ _ a1);have X1:=Hd hx1
 clear h1 h2 a1 a2 a3 a4 a5 a6 a7 hx1 OW;go_upto_region 4 with fail
 rw [X1.out];go_wp2_with fail;refine AX.out.mono ?_;rintro e w4 ⟨rfl,h1,h2⟩;have FIN:=Hd (And.intro (h1.sub (R' := R) fun k hk=>by simp [hk]) (K1.out.trans (h2.sub (R' := R) fun k hk=>by simp [hk])));clear h1 h2 AX c0 c1 c2 c3 c4 y0 y1 y2 y3;go_wp2_with fail;go_ret2;exact ⟨rfl,FIN.out⟩
theorem JD {w0 w:World} {R:List Nat} {t d s:Nat} {E:List Ent} {nm f:ByteArray} {li:Int} {os:List aN} {cs:List (Option aS)} {ls:List Int} {m:Nat} (h:TxS w0 R w t d s 640 E) (hc:CpE E cs os ls m) (hm:m≤290) (hl:os.length < 25) (hnm:nm.size≤140737488351232) (hr:aY nm=true) (hf:cE nm=f) (hli:0≤li∧li≤1000) (hnew:∀ (j:Nat) (q:aN),os[j]?=some q→q.nm≠f) :
  Calls Tryz.prog 24 #[.pointer (some ⟨t,0,none⟩),.string nm,.int .i64 li] w fun e' w' => e'=.returned (.tuple #[.int .i64 ((os.length:Int) + 1),.int .i64 0])∧TxS w0 R w' t d s 640 (LO E ((os.length:Int) + 1) ⟨f,li,0⟩)∧KeptT R t w w'∧CpE (LO E ((os.length:Int) + 1) ⟨f,li,0⟩) cs (os ++ [⟨f,li,0⟩]) ls (m + 2):=by
 have fd:=EF nm hr;rw [hf] at fd;have ho:dV ((os.length:Int) + 1) ⟨f,li,0⟩:=eR.2 ⟨by omega,fd.right,fd.again,hli,Int.le_refl 0,hli.1⟩;have hE:=hc.len;refine (wB h (.inl ⟨rfl,rfl⟩) fun R' wa b0 b1 b2 hT g0 g1 g2 gm=>WO hT g1 g2 g0 ⟨gm.2.1,gm.2.2,gm.1⟩ (by omega) hc.keys hc.owners hc.ownOk hnm hr hf hli (.inr ⟨hnew,rfl,rfl,rfl⟩) hc.num2 (by omega) rfl ho).mono ?_;rintro e' w' ⟨rfl,h1,h2⟩;exact ⟨rfl,h1,h2,hc.reg hl ho⟩
theorem YX {w0 w:World} {R:List Nat} {t d s:Nat} {E:List Ent} {nm f:ByteArray} {li:Int} {os:List aN} {cs:List (Option aS)} {ls:List Int} {m:Nat} (h:TxS w0 R w t d s 640 E) (hc:CpE E cs os ls m) (hm:m≤290) (hnm:nm.size≤140737488351232) (hr:aY nm=true) (hf:cE nm=f) (hli:0≤li∧li≤1000) {i:Int} {p:aN} (hx:wM os f i p 0) :
  Calls Tryz.prog 24 #[.pointer (some ⟨t,0,none⟩),.string nm,.int .i64 li] w fun e' w' => e'=.returned (.tuple #[.int .i64 0,.int .i64 14])∧TxS w0 R w' t d s 640 E∧KeptT R t w w' :=
 wB (x:=0) h (.inr ⟨by decide,rfl⟩) fun R' wa b0 b1 b2 hT g0 g1 g2 gm=>WP hT g1 g2 g0 ⟨gm.2.1,gm.2.2,gm.1⟩ (by have:=hc.len; omega) hc.keys hc.owners hc.ownOk hnm hr hf hli hx
theorem UM {w0 w:World} {R:List Nat} {t d s:Nat} {E:List Ent} {ow ob ri ba ex:Int} {os:List aN} {cs:List (Option aS)} {ls:List Int} {m:Nat} {oi:Nat} {p:aN} (h:TxS w0 R w t d s 640 E) (hc:CpE E cs os ls m) (hm:m≤280) (hl:cs.length < 90) (hp:os[oi]?=some p) (how:(oi:Int) + 1=ow) (hq:p.ha < p.li) (hob:1≤ob∧ob≤16777215) (hri:0≤ri∧ri≤65535) (hba:0≤ba∧ba≤4294967295) (hex:0≤ex∧ex≤268435455) :
  Calls Tryz.prog 26 #[.pointer (some ⟨t,0,none⟩),.int .i64 ow,.int .i64 ob,.int .i64 ri,.int .i64 ba,.int .i64 ex] w fun e' w' => ∃ E', e'=.returned (.tuple #[.int .i64 ((cs.length:Int) + 1),.int .i64 0])∧TxS w0 R w' t d s 640 E'∧KeptT R t w w'∧CpE E' (cs ++ [some ⟨0,ob,ow,ri,ba,1,ex,0,false⟩]) (os.set oi ⟨p.nm,p.li,p.ha + 1⟩) (ls ++ [ex]) (m + 5):=by
 have ho:=eR.1 (hc.ownOk oi p hp);have hi:=(List.getElem?_eq_some_iff.1 hp).1;have hol:=hc.ol;have hok:fO ((cs.length:Int) + 1) ⟨0,ob,ow,ri,ba,1,ex,0,false⟩:=mI.2 ⟨by omega,(by decide:(0:Int)≤0∧(0:Int)≤16777215),by show (0:Int)≠_; omega,hob,by show 1≤ow∧ow≤16777215; omega,hri,hba,(by decide:(1:Int)≤1∧(1:Int)≤8),⟨fun _=>rfl,fun _=>rfl⟩,hex,(by decide:(0:Int)≤0∧(0:Int)≤16777215)⟩
 have hoo:dV ((oi:Int) + 1) ⟨p.nm,p.li,p.ha + 1⟩:=eR.2 ⟨ho.1,ho.2.1,ho.2.2.1,ho.2.2.2.1,by show 0≤p.ha + 1; omega,by show p.ha + 1≤p.li; omega⟩;have hE:=hc.len
 have hmay:(fR ri ri && (inB 0 4294967295 ba && inB 0 268435455 ex))=true:=by
  rw [Bool.and_eq_true,Bool.and_eq_true];exact ⟨iD.2 hri,dY.2 hba,dY.2 hex⟩
 have hg:=hc.getO hp;rw [how] at hg;have hmm:=hc.mint (c:=⟨0,ob,ow,ri,ba,1,ex,0,false⟩) (o:=⟨p.nm,p.li,p.ha + 1⟩) (oi:=oi) hl hok hi hoo;rw [how] at hmm;refine (ZB h (.inl ⟨rfl,rfl⟩) fun R' wa b0 b1 b2 b3 b4 b5 hT g0 g1 g2 g3 g4 g5 gm=>SQ hT g2 g3 g4 g5 g0 g1 ⟨gm.2.2.1,gm.2.2.2.1,gm.2.2.2.2.1,gm.2.2.2.2.2,gm.1,gm.2.1⟩ (by omega) hob hmay hg hq hc.num1 (by omega) rfl hok).mono ?_;rintro e' w' ⟨rfl,h1,h2⟩;exact ⟨_,rfl,h1,h2,hmm⟩
section
attribute [local go_sem] Oper.semAt_some
theorem IH {w0 w:World} {R:List Nat} {t d s n:Nat} {E:List Ent} {id now:Int} {c:aS} {L:List (Int × aS)} (h:TxS w0 R w t d s n E) (hE:E.length≤600) (hc:ChainE E id L) (hl:L.length≤9) (hx:stV L now=0) (hg:GG E id c) :
  Calls Tryz.prog 78 #[.pointer (some ⟨t,0,none⟩),.int .i64 id,.int .i64 now] w fun e w' => e=.returned (.tuple #[.agg #[.int .i64 id,.int .i64 c.pa,.int .i64 c.ob,.int .i64 c.ow,.int .i64 c.ri,.int .i64 c.ba,.int .i64 c.de,.int .i64 c.ex,.int .i64 c.cu,.bool c.rv],.int .i64 0])∧TxS w0 R w' t d s n E∧KeptT R t w w' := by
 obtain ⟨a1,a2,a3,a4,a5,a6,a7⟩:=h.box (.cells #[.int .i64 0,.int .i64 0,.int .i64 0,.int .i64 0,.int .i64 0,.int .i64 0,.int .i64 0,.int .i64 0,.int .i64 0,.bool false] 53);obtain ⟨r3,hr3⟩:∃ r3,w.heap.size=r3:=⟨_,rfl⟩
 obtain ⟨x1,hx1⟩:∃ x1,w.alloc (.cells #[.int .i64 0,.int .i64 0,.int .i64 0,.int .i64 0,.int .i64 0,.int .i64 0,.int .i64 0,.int .i64 0,.int .i64 0,.bool false] 53)=x1:=⟨_,rfl⟩
 rw [hx1] at a1 a2 a3 a5;rw [hr3] at a1 a3 a4 a5 a6 a7;have X1:=Hd hx1;have HR4:=Hd (And.intro a6 a7);have A3:=Hd (And.intro a3 a4);have A2:=Hd (And.intro a2 a1);have ST:=uP (now:=now) a1 hE hc hl;rw [hx] at ST;have ST:=Hd ST;have GT:=Hd (fun (wx:World) (h:TxS w0 (r3 :: R) wx t d s n E)=>uQ h hE hg);clear hg;clear h hE hc hl hx a1 a2 a3 a4 a5 a6 a7 hx1;go_enter Tryz.func78,Tryz.ntmps78;go_upto_region 1 with fail
 rw [X1.out];try rw [hr3]
 clear hr3;go_wp2_with fail;refine ST.out.mono ?_;rintro e w3 ⟨rfl,h1,h2⟩;have G3:=Hd (GT.out w3 h1);have F3:=Hd h2;clear h1 h2 ST GT;go_wp2_with fail;refine G3.out.mono ?_;rintro e w4 ⟨rfl,h1,h2⟩;have F4:=Hd (And.intro h1 (F3.out.trans h2));clear h1 h2 G3 F3;have r8:=(F4.out.2 r3 (by simp) A3.out.2).trans A3.out.1;obtain ⟨⟨y0,y1,y2,y3,y4,y5,y6,y7,y8,y9⟩,u0,u1,u2,u3,u4,u5,u6,u7,u8,u9⟩:=cK r8
 obtain ⟨n1,n2⟩:=QB r8 (.int .i64 id) (.int .i64 c.pa) (.int .i64 c.ob) (.int .i64 c.ow) (.int .i64 c.ri) (.int .i64 c.ba) (.int .i64 c.de) (.int .i64 c.ex) (.int .i64 c.cu) (.bool c.rv)
 have FIN:Hid ((stC w4 r3 (.int .i64 id) (.int .i64 c.pa) (.int .i64 c.ob) (.int .i64 c.ow) (.int .i64 c.ri) (.int .i64 c.ba) (.int .i64 c.de) (.int .i64 c.ex) (.int .i64 c.cu) (.bool c.rv)).heap[r3]?=some (.cells #[.int .i64 id,.int .i64 c.pa,.int .i64 c.ob,.int .i64 c.ow,.int .i64 c.ri,.int .i64 c.ba,.int .i64 c.de,.int .i64 c.ex,.int .i64 c.cu,.bool c.rv] 53)∧TxS w0 R (stC w4 r3 (.int .i64 id) (.int .i64 c.pa) (.int .i64 c.ob) (.int .i64 c.ow) (.int .i64 c.ri) (.int .i64 c.ba) (.int .i64 c.de) (.int .i64 c.ex) (.int .i64 c.cu) (.bool c.rv)) t d s n E∧KeptT R t w (stC w4 r3 (.int .i64 id) (.int .i64 c.pa) (.int .i64 c.ob) (.int .i64 c.ow) (.int .i64 c.ri) (.int .i64 c.ba) (.int .i64 c.de) (.int .i64 c.ex) (.int .i64 c.cu) (.bool c.rv))):=Hd (by
  refine ⟨n1,((F4.out.1).turn (k:=r3) (by simp) A3.out.2 HR4.out.1 n2).sub (fun k hk=>by simp [hk]),fun k hk hn=>?_⟩;exact (n2.block k ((F4.out.1).lt.1 k (by simp [hk])) (HR4.out.2 k hk)).trans ((F4.out.2 k (by simp [hk]) hn).trans (A2.out.1 k hk hn)))
 unfold stC at FIN;clear n1 n2 r8;go_wp2_with fail;exact bodyPost_ret (v:=.tuple #[.agg #[.int .i64 id,.int .i64 c.pa,.int .i64 c.ob,.int .i64 c.ow,.int .i64 c.ri,.int .i64 c.ba,.int .i64 c.de,.int .i64 c.ex,.int .i64 c.cu,.bool c.rv],.int .i64 0]) (aP (fn:=Tryz.f78) rfl _ _ r3 53 _ (0,0) _ _ rfl rfl FIN.out.1 Tryz.underlying53 rfl iI) rfl ⟨rfl,FIN.out.2⟩
theorem EQ {w0 w:World} {R:List Nat} {t d s:Nat} {E:List Ent} {br bb be bt bp bn bw:Nat} {ri ba ex pa now ow v id de x:Int} {c:aS} {p:aN} {L:List (Int × aS)} (h:TxS w0 R w t d s 640 E) (hbr:w.heap[br]?=some (.cells #[.int .i64 ri] 3)) (hbb:w.heap[bb]?=some (.cells #[.int .i64 ba] 3)) (hbe:w.heap[be]?=some (.cells #[.int .i64 ex] 3)) (hbt:w.heap[bt]?=some (.cells #[.pointer (some ⟨t,0,none⟩)] 24)) (hbp:w.heap[bp]?=some (.cells #[.int .i64 pa] 3)) (hbn:w.heap[bn]?=some (.cells #[.int .i64 now] 3)) (hbw:w.heap[bw]?=some (.cells #[.int .i64 ow] 3)) (hm:(br∈R∧br≠t∧w0.heap.size≤br)∧(bb∈R∧bb≠t∧w0.heap.size≤bb)∧(be∈R∧be≠t∧w0.heap.size≤be)∧(bt∈R∧bt≠t∧w0.heap.size≤bt)∧(bp∈R∧bp≠t∧w0.heap.size≤bp)∧(bn∈R∧bn≠t∧w0.heap.size≤bn)∧(bw∈R∧bw≠t∧w0.heap.size≤bw)) (hE:E.length≤290) (hmay:(fR ri ri && (inB 0 4294967295 ba && inB 0 268435455 ex))=true)
  (hch:ChainE E pa L) (hl:L.length≤9) (hst:stV L now=0) (hgc:GG E pa c) (hg:VG E ow p) (hu:(if fR ri c.ri=true then (if 8≤c.de then 9 else 0) else 7)=(0:Int)) (hq:p.ha < p.li) (hv:NumE E 10376293541461622785 v) (hv1:v < 16777215) (hid:v + 1=id) (hde:c.de + 1=de) (hde1:0≤de∧de≤8) (hc2:fO id ⟨pa,c.ob,ow,ri,ba,de,ex,0,false⟩) :
  Calls Tryz.prog 77 #[.pointer (some ⟨br,0,none⟩),.pointer (some ⟨bb,0,none⟩),.pointer (some ⟨be,0,none⟩),.pointer (some ⟨bt,0,none⟩),.pointer (some ⟨bp,0,none⟩),.pointer (some ⟨bn,0,none⟩),.pointer (some ⟨bw,0,none⟩)] w fun e' w' => e'=.returned (.tuple #[.int .i64 id,.int .i64 0])∧TxS w0 R w' t d s 640 (nG E id ⟨pa,c.ob,ow,ri,ba,de,ex,0,false⟩ ow ⟨p.nm,p.li,p.ha + 1⟩)∧KeptT R t w w' := by
 have MY:=Hd (fun w=>wD ri ba ex true w hmay);have LV:=Hd (IH h (show E.length≤600 by omega) hch hl hst hgc);have OW:=Hd (fun (R' : List Nat) (wx:World) (hx:TxS w0 R' wx t d s 640 E)=>mG hx (show E.length≤600 by omega) hg);have UN:=Hd (fun (R' : List Nat) (wx:World) (hx:TxS w0 R' wx t d s 640 E)=>JC (id:=pa) hx hu);have ho:=eR.1 hg.2
 have AD:=Hd (fun (R' : List Nat) (wx:World) (hx:TxS w0 R' wx t d s 640 E)=>JG (pa:=pa) (ob:=c.ob) (oi:=ow) (ri:=ri) (ba:=ba) (de:=de) (ex:=ex) (nm:=p.nm) (li:=p.li) (ha:=p.ha) hx hE hv hv1 hid hq rfl ⟨ho.2.2.2.2.1,ho.2.2.2.1.2⟩ hc2 (eR.2 ⟨ho.1,ho.2.1,ho.2.2.1,ho.2.2.2.1,by show 0≤p.ha + 1; omega,by show p.ha + 1≤p.li; omega⟩) rfl);have ed:IntKind.i64.wrap (c.de + 1)=de:=by rw [hde]; exact IntWalk.i64_in _ (by omega)
 have HB:=Hd (And.intro hbr (And.intro hbb (And.intro hbe (And.intro hbt (And.intro hbp (And.intro hbn hbw))))));have HM:=Hd hm;have c0:=(aD hbr).1;have c1:=(aD hbb).1;have c2:=(aD hbe).1;have c3:=(aD hbt).1;have c4:=(aD hbp).1;have c5:=(aD hbn).1;have c6:=(aD hbw).1;obtain ⟨nm,li,ha⟩:=p;clear h hbr hbb hbe hbt hbp hbn hbw hm hE hmay hch hl hst hgc hg hu hq hv hv1 hid hde hde1 hc2 ho;go_enter Tryz.func77,Tryz.ntmps77;go_wp2_with fail;refine (MY.out _).mono ?_;rintro e w1 ⟨rfl,rfl⟩;go_wp2_with fail;refine LV.out.mono ?_;rintro e w3 ⟨rfl,h1,h2⟩
 obtain ⟨a1,a2,a3,a4,a5,a6,a7⟩:=h1.box (.cells #[.int .i64 pa,.int .i64 c.pa,.int .i64 c.ob,.int .i64 c.ow,.int .i64 c.ri,.int .i64 c.ba,.int .i64 c.de,.int .i64 c.ex,.int .i64 c.cu,.bool c.rv] 53);obtain ⟨x1,hx1⟩:∃ x,w3.alloc (.cells #[.int .i64 pa,.int .i64 c.pa,.int .i64 c.ob,.int .i64 c.ow,.int .i64 c.ri,.int .i64 c.ba,.int .i64 c.de,.int .i64 c.ex,.int .i64 c.cu,.bool c.rv] 53)=x:=⟨_,rfl⟩
 obtain ⟨bA,hbA⟩:∃ n,w3.heap.size=n:=⟨_,rfl⟩
 rw [hx1] at a1 a2 a3 a5;rw [hbA] at a1 a3 a4;have K1:=Hd (h2.trans a2);have OX:=Hd (OW.out _ _ a1);have X1:=Hd (And.intro hx1 hbA);have A3:=Hd (And.intro a3 a4);clear h1 h2 a1 a2 a3 a4 a5 a6 a7 hx1 hbA OW LV MY c0 c1 c2 c3 c4 c5 c6;go_upto_region 4 with fail
 rw [X1.out.1];try rw [X1.out.2]
 have c3:=(aD ((K1.out bt (HM.out.2.2.2.1).1 (HM.out.2.2.2.1).2.1).trans (HB.out.2.2.2.1))).1;have c6:=(aD ((K1.out bw (HM.out.2.2.2.2.2.2).1 (HM.out.2.2.2.2.2.2).2.1).trans (HB.out.2.2.2.2.2.2))).1;go_wp2_with fail;refine OX.out.mono ?_;rintro e w4 ⟨rfl,h1,h2⟩;obtain ⟨a1,a2,a3,a4,a5,a6,a7⟩:=h1.box (.cells #[.int .i64 ow,.string nm,.int .i64 li,.int .i64 ha] 42);obtain ⟨x2,hx2⟩:∃ x,w4.alloc (.cells #[.int .i64 ow,.string nm,.int .i64 li,.int .i64 ha] 42)=x:=⟨_,rfl⟩
 obtain ⟨bB,hbB⟩:∃ n,w4.heap.size=n:=⟨_,rfl⟩
 rw [hx2] at a1 a2 a3 a5;rw [hbB] at a1 a3 a4;have KA:=Hd (h2.trans a2);have K2:=Hd (K1.out.trans (KA.out.sub (R' := R) fun k hk=>by simp [hk]));have UX:=Hd (UN.out _ _ a1);have X2:=Hd (And.intro hx2 hbB);have B3:=Hd (And.intro a3 a4);have mA:=(KA.out bA (by simp) A3.out.2).trans A3.out.1;have MA:=Hd mA;clear h1 h2 a1 a2 a3 a4 a5 a6 a7 hx2 hbB UN OX K1 KA c3 c6;go_upto_region 7 with fail
 rw [X2.out.1];try rw [X2.out.2]
 have c0:=(aD ((K2.out br (HM.out.1).1 (HM.out.1).2.1).trans (HB.out.1))).1;obtain ⟨⟨y0,y1,y2,y3,y4,y5,y6,y7,y8,y9⟩,_⟩:=cK mA;clear mA;go_wp2_with fail;refine UX.out.mono ?_;rintro e w5 ⟨rfl,h1,h2⟩;have K3:=Hd (K2.out.trans (h2.sub (R' := R) fun k hk=>by simp [hk]));have mA:=(h2 bA (by simp) A3.out.2).trans MA.out;have mB:=(h2 bB (by simp) B3.out.2).trans B3.out.1;obtain ⟨a1,a2,a3,a4,a5,a6,a7⟩:=h1.box (.cells #[.int .i64 0,.int .i64 pa,.int .i64 c.ob,.int .i64 0,.int .i64 ri,.int .i64 ba,.int .i64 de,.int .i64 ex,.int .i64 0,.bool false] 53)
 obtain ⟨x3,hx3⟩:∃ x,w5.alloc (.cells #[.int .i64 0,.int .i64 pa,.int .i64 c.ob,.int .i64 0,.int .i64 ri,.int .i64 ba,.int .i64 de,.int .i64 ex,.int .i64 0,.bool false] 53)=x:=⟨_,rfl⟩
 obtain ⟨bC,hbC⟩:∃ n,w5.heap.size=n:=⟨_,rfl⟩
 rw [hx3] at a1 a2 a3 a5;rw [hbC] at a1 a3 a4;have AX:=Hd (AD.out _ _ a1);have X3:=Hd (And.intro hx3 hbC);have K4:=Hd (K3.out.trans (a2.sub (R' := R) fun k hk=>by simp [hk]));have MB:=Hd ((a2 bB (by simp) B3.out.2).trans mB);have MC:=Hd a3;clear h1 h2 a1 a2 a3 a4 a5 a6 a7 hx3 hbC AD UX K2 c0 y0 y1 y2 y3 y4 y5 y6 y7 y8 y9 mB MA;have c4:=(aD ((K3.out bp (HM.out.2.2.2.2.1).1 (HM.out.2.2.2.2.1).2.1).trans (HB.out.2.2.2.2.1))).1;have c0:=(aD ((K3.out br (HM.out.1).1 (HM.out.1).2.1).trans (HB.out.1))).1
 have c1:=(aD ((K3.out bb (HM.out.2.1).1 (HM.out.2.1).2.1).trans (HB.out.2.1))).1;have c2:=(aD ((K3.out be (HM.out.2.2.1).1 (HM.out.2.2.1).2.1).trans (HB.out.2.2.1))).1;obtain ⟨⟨y0,y1,y2,y3,y4,y5,y6,y7,y8,y9⟩,g0,g1,g2,g3,g4,g5,g6,g7,g8,g9⟩:=cK mA;clear mA;go_upto_region 13 with fail
 rw [X3.out.1];try rw [X3.out.2]
 clear c4 c0 c1 c2 y0 y1 y2 y3 y4 y5 y6 y7 y8 y9 g0 g1 g2 g3 g4 g5 g6 g7 g8 g9;have c3:=(aD ((K4.out bt (HM.out.2.2.2.1).1 (HM.out.2.2.2.1).2.1).trans (HB.out.2.2.2.1))).1;obtain ⟨⟨y0,y1,y2,y3,y4,y5,y6,y7,y8,y9⟩,_⟩:=cK MC.out;obtain ⟨⟨z0,z1,z2,z3⟩,_⟩:=cQ MB.out;go_wp2_with fail;refine AX.out.mono ?_;rintro e w6 ⟨rfl,h1,h2⟩;have FIN:=Hd (And.intro (h1.sub (R' := R) fun k hk=>by simp [hk]) (K4.out.trans (h2.sub (R' := R) fun k hk=>by simp [hk])));clear h1 h2 AX c3 y0 y1 y2 y3 y4 y5 y6 y7 y8 y9 z0 z1 z2 z3;go_wp2_with fail;go_ret2;exact ⟨rfl,FIN.out⟩
theorem zZ {w0 w:World} {R:List Nat} {t d s:Nat} {E:List Ent} {br bb be bt bp bn bw:Nat} {ri ba ex pa now ow v id de x:Int} {c:aS} {p:aN} {L:List (Int × aS)} (h:TxS w0 R w t d s 640 E) (hbr:w.heap[br]?=some (.cells #[.int .i64 ri] 3)) (hbb:w.heap[bb]?=some (.cells #[.int .i64 ba] 3)) (hbe:w.heap[be]?=some (.cells #[.int .i64 ex] 3)) (hbt:w.heap[bt]?=some (.cells #[.pointer (some ⟨t,0,none⟩)] 24)) (hbp:w.heap[bp]?=some (.cells #[.int .i64 pa] 3)) (hbn:w.heap[bn]?=some (.cells #[.int .i64 now] 3)) (hbw:w.heap[bw]?=some (.cells #[.int .i64 ow] 3)) (hm:(br∈R∧br≠t∧w0.heap.size≤br)∧(bb∈R∧bb≠t∧w0.heap.size≤bb)∧(be∈R∧be≠t∧w0.heap.size≤be)∧(bt∈R∧bt≠t∧w0.heap.size≤bt)∧(bp∈R∧bp≠t∧w0.heap.size≤bp)∧(bn∈R∧bn≠t∧w0.heap.size≤bn)∧(bw∈R∧bw≠t∧w0.heap.size≤bw)) (hE:E.length≤290) (hmay:(fR ri ri && (inB 0 4294967295 ba && inB 0 268435455 ex))=true)
  (hch:ChainE E pa L) (hl:L.length≤9) (hst:stV L now=0) (hgc:GG E pa c) (hg:VG E ow p) (hu:(if fR ri c.ri=true then (if 8≤c.de then 9 else 0) else 7)=x) (hx:x≠0) :
  Calls Tryz.prog 77 #[.pointer (some ⟨br,0,none⟩),.pointer (some ⟨bb,0,none⟩),.pointer (some ⟨be,0,none⟩),.pointer (some ⟨bt,0,none⟩),.pointer (some ⟨bp,0,none⟩),.pointer (some ⟨bn,0,none⟩),.pointer (some ⟨bw,0,none⟩)] w fun e' w' => e'=.returned (.tuple #[.int .i64 0,.int .i64 x])∧TxS w0 R w' t d s 640 E∧KeptT R t w w' := by
 have MY:=Hd (fun w=>wD ri ba ex true w hmay);have LV:=Hd (IH h (show E.length≤600 by omega) hch hl hst hgc);have OW:=Hd (fun (R' : List Nat) (wx:World) (hx:TxS w0 R' wx t d s 640 E)=>mG hx (show E.length≤600 by omega) hg);have UN:=Hd (fun (R' : List Nat) (wx:World) (hx:TxS w0 R' wx t d s 640 E)=>JC (id:=pa) hx hu);have x2:(x == 0)=false:=by simpa using hx
 have x3:(x != 0)=true:=by simpa using hx
 have HB:=Hd (And.intro hbr (And.intro hbb (And.intro hbe (And.intro hbt (And.intro hbp (And.intro hbn hbw))))));have HM:=Hd hm;have c0:=(aD hbr).1;have c1:=(aD hbb).1;have c2:=(aD hbe).1;have c3:=(aD hbt).1;have c4:=(aD hbp).1;have c5:=(aD hbn).1;have c6:=(aD hbw).1;obtain ⟨nm,li,ha⟩:=p;clear h hbr hbb hbe hbt hbp hbn hbw hm hE hmay hch hl hst hgc hg hu hx;go_enter Tryz.func77,Tryz.ntmps77;go_wp2_with fail;refine (MY.out _).mono ?_;rintro e w1 ⟨rfl,rfl⟩;go_wp2_with fail;refine LV.out.mono ?_;rintro e w3 ⟨rfl,h1,h2⟩
 obtain ⟨a1,a2,a3,a4,a5,a6,a7⟩:=h1.box (.cells #[.int .i64 pa,.int .i64 c.pa,.int .i64 c.ob,.int .i64 c.ow,.int .i64 c.ri,.int .i64 c.ba,.int .i64 c.de,.int .i64 c.ex,.int .i64 c.cu,.bool c.rv] 53);obtain ⟨x1,hx1⟩:∃ x,w3.alloc (.cells #[.int .i64 pa,.int .i64 c.pa,.int .i64 c.ob,.int .i64 c.ow,.int .i64 c.ri,.int .i64 c.ba,.int .i64 c.de,.int .i64 c.ex,.int .i64 c.cu,.bool c.rv] 53)=x:=⟨_,rfl⟩
 obtain ⟨bA,hbA⟩:∃ n,w3.heap.size=n:=⟨_,rfl⟩
 rw [hx1] at a1 a2 a3 a5;rw [hbA] at a1 a3 a4;have K1:=Hd (h2.trans a2);have OX:=Hd (OW.out _ _ a1);have X1:=Hd (And.intro hx1 hbA);have A3:=Hd (And.intro a3 a4);clear h1 h2 a1 a2 a3 a4 a5 a6 a7 hx1 hbA OW LV MY c0 c1 c2 c3 c4 c5 c6;go_upto_region 4 with fail
 rw [X1.out.1];try rw [X1.out.2]
 have c3:=(aD ((K1.out bt (HM.out.2.2.2.1).1 (HM.out.2.2.2.1).2.1).trans (HB.out.2.2.2.1))).1;have c6:=(aD ((K1.out bw (HM.out.2.2.2.2.2.2).1 (HM.out.2.2.2.2.2.2).2.1).trans (HB.out.2.2.2.2.2.2))).1;go_wp2_with fail;refine OX.out.mono ?_;rintro e w4 ⟨rfl,h1,h2⟩;obtain ⟨a1,a2,a3,a4,a5,a6,a7⟩:=h1.box (.cells #[.int .i64 ow,.string nm,.int .i64 li,.int .i64 ha] 42);obtain ⟨x2,hx2⟩:∃ x,w4.alloc (.cells #[.int .i64 ow,.string nm,.int .i64 li,.int .i64 ha] 42)=x:=⟨_,rfl⟩
 obtain ⟨bB,hbB⟩:∃ n,w4.heap.size=n:=⟨_,rfl⟩
 rw [hx2] at a1 a2 a3 a5;rw [hbB] at a1 a3 a4;have KA:=Hd (h2.trans a2);have K2:=Hd (K1.out.trans (KA.out.sub (R' := R) fun k hk=>by simp [hk]));have UX:=Hd (UN.out _ _ a1);have X2:=Hd (And.intro hx2 hbB);have B3:=Hd (And.intro a3 a4);have mA:=(KA.out bA (by simp) A3.out.2).trans A3.out.1;have MA:=Hd mA;clear h1 h2 a1 a2 a3 a4 a5 a6 a7 hx2 hbB UN OX K1 KA c3 c6;go_upto_region 7 with fail
 rw [X2.out.1];try rw [X2.out.2]
 have c0:=(aD ((K2.out br (HM.out.1).1 (HM.out.1).2.1).trans (HB.out.1))).1;obtain ⟨⟨y0,y1,y2,y3,y4,y5,y6,y7,y8,y9⟩,_⟩:=cK mA;clear mA;go_wp2_with fail;refine UX.out.mono ?_;rintro e w5 ⟨rfl,h1,h2⟩;have K3:=Hd (K2.out.trans (h2.sub (R' := R) fun k hk=>by simp [hk]));have FIN:=Hd (And.intro (h1.sub (R' := R) fun k hk=>by simp [hk]) K3.out);clear h1 h2 UX c0 y0 y1 y2 y3 y4 y5 y6 y7 y8 y9;go_wp2_with fail;go_ret2;exact ⟨rfl,FIN.out⟩
end
theorem ZD {w0 w:World} {R:List Nat} {t d s:Nat} {E:List Ent} {pa ow ri ba ex now de:Int} {os:List aN} {cs:List (Option aS)} {ls:List Int} {m:Nat} {oi i:Nat} {c:aS} {p:aN} {L:List (Int × aS)} (h:TxS w0 R w t d s 640 E) (hc:CpE E cs os ls m) (hm:m≤280) (hl:cs.length < 90) (hp:os[oi]?=some p) (how:(oi:Int) + 1=ow) (hq:p.ha < p.li)
  (hci:cs[i]?=some (some c)) (hpa:(i:Int) + 1=pa) (hch:ChainE E pa L) (hL:L.length≤9) (hst:stV L now=0) (hsub:fR ri c.ri=true) (hde:c.de < 8) (hde2:c.de + 1=de)
  (hri:0≤ri∧ri≤65535) (hba:0≤ba∧ba≤4294967295) (hex:0≤ex∧ex≤268435455) {id:Int} (hid:(cs.length:Int) + 1=id) :
  Calls Tryz.prog 28 #[.pointer (some ⟨t,0,none⟩),.int .i64 pa,.int .i64 ow,.int .i64 ri,.int .i64 ba,.int .i64 ex,.int .i64 now] w fun e' w' => ∃ E', e'=.returned (.tuple #[.int .i64 id,.int .i64 0])∧TxS w0 R w' t d s 640 E'∧KeptT R t w w'∧CpE E' (cs ++ [some ⟨pa,c.ob,ow,ri,ba,de,ex,0,false⟩]) (os.set oi ⟨p.nm,p.li,p.ha + 1⟩) (ls ++ [ex]) (m + 5):=by
 have ho:=eR.1 (hc.ownOk oi p hp);have hi:=(List.getElem?_eq_some_iff.1 hp).1;have hi2:=(List.getElem?_eq_some_iff.1 hci).1;have hol:=hc.ol;have hC:=mI.1 (hc.capOk i c hci);have hdr:=hC.de;have hok:fO ((cs.length:Int) + 1) ⟨pa,c.ob,ow,ri,ba,de,ex,0,false⟩:=mI.2 ⟨by omega,by show 0≤pa∧pa≤16777215; omega,by show pa≠_; omega,hC.ob,by show 1≤ow∧ow≤16777215; omega,hri,hba,by show 1≤de∧de≤8; omega,by show pa=0 ↔ de=1; omega,hex,(by decide:(0:Int)≤0∧(0:Int)≤16777215)⟩
 have hoo:dV ((oi:Int) + 1) ⟨p.nm,p.li,p.ha + 1⟩:=eR.2 ⟨ho.1,ho.2.1,ho.2.2.1,ho.2.2.2.1,by show 0≤p.ha + 1; omega,by show p.ha + 1≤p.li; omega⟩;have hE:=hc.len
 have hmay:(fR ri ri && (inB 0 4294967295 ba && inB 0 268435455 ex))=true:=by
  rw [Bool.and_eq_true,Bool.and_eq_true];exact ⟨iD.2 hri,dY.2 hba,dY.2 hex⟩
 have hg:=hc.getO hp;rw [how] at hg;have hgc:=hc.getC hci;rw [hpa] at hgc;have hmm:=hc.mint (c:=⟨pa,c.ob,ow,ri,ba,de,ex,0,false⟩) (o:=⟨p.nm,p.li,p.ha + 1⟩) (oi:=oi) hl hok hi hoo;rw [how] at hmm;have hu:(if fR ri c.ri=true then (if 8≤c.de then 9 else 0) else 7)=(0:Int):=by rw [if_pos hsub,if_neg (by omega)]
 rw [hid] at hok hmm;refine (JF h (.inl ⟨rfl,rfl⟩) fun R' wa b0 b1 b2 b3 b4 b5 b6 hT g0 g1 g2 g3 g4 g5 g6 gm=>EQ (x:=0) hT g3 g4 g5 g0 g1 g6 g2 ⟨gm.2.2.2.1,gm.2.2.2.2.1,gm.2.2.2.2.2.1,gm.1,gm.2.1,gm.2.2.2.2.2.2,gm.2.2.1⟩ (by omega) hmay hch hL hst hgc hg hu hq hc.num1 (by omega) hid hde2 (by omega) hok).mono ?_;rintro e' w' ⟨rfl,h1,h2⟩;exact ⟨_,rfl,h1,h2,hmm⟩
theorem UQ {w0 w:World} {R:List Nat} {t d s:Nat} {E:List Ent} {pa ow ri ba ex now x:Int} {os:List aN} {cs:List (Option aS)} {ls:List Int} {m:Nat} {oi i:Nat} {c:aS} {p:aN} {L:List (Int × aS)} (h:TxS w0 R w t d s 640 E) (hc:CpE E cs os ls m) (hm:m≤290) (hp:os[oi]?=some p) (how:(oi:Int) + 1=ow)
  (hci:cs[i]?=some (some c)) (hpa:(i:Int) + 1=pa) (hch:ChainE E pa L) (hL:L.length≤9) (hst:stV L now=0) (hu:(if fR ri c.ri=true then (if 8≤c.de then 9 else 0) else 7)=x) (hx:x≠0)
  (hri:0≤ri∧ri≤65535) (hba:0≤ba∧ba≤4294967295) (hex:0≤ex∧ex≤268435455) :
  Calls Tryz.prog 28 #[.pointer (some ⟨t,0,none⟩),.int .i64 pa,.int .i64 ow,.int .i64 ri,.int .i64 ba,.int .i64 ex,.int .i64 now] w fun e' w' => e'=.returned (.tuple #[.int .i64 0,.int .i64 x])∧TxS w0 R w' t d s 640 E∧KeptT R t w w' := by
 have hE:=hc.len
 have hmay:(fR ri ri && (inB 0 4294967295 ba && inB 0 268435455 ex))=true:=by
  rw [Bool.and_eq_true,Bool.and_eq_true];exact ⟨iD.2 hri,dY.2 hba,dY.2 hex⟩
 have hg:=hc.getO hp;rw [how] at hg;have hgc:=hc.getC hci;rw [hpa] at hgc;exact JF (x:=0) h (.inr ⟨hx,rfl⟩) fun R' wa b0 b1 b2 b3 b4 b5 b6 hT g0 g1 g2 g3 g4 g5 g6 gm=>zZ (v:=0) (id:=0) (de:=0) hT g3 g4 g5 g0 g1 g6 g2 ⟨gm.2.2.2.1,gm.2.2.2.2.1,gm.2.2.2.2.2.1,gm.1,gm.2.1,gm.2.2.2.2.2.2,gm.2.2.1⟩ (by omega) hmay hch hL hst hgc hg hu hx
open Go.RowKit




theorem uG (w:World) :
  Calls Tryz.prog 22 #[] w fun e w' => ∃ t d s,e=.returned (.pointer (some ⟨t,0,none⟩))∧TxS w [] w' t d s 640 []:=by
 have NY:=Hd fun w=>XQ w 640 (by decide) (by decide)
 have hln:(DkS.fresh 640).S.length=640:=by show (List.replicate 640 zs).length=640; rw [List.length_replicate]
 have FG:=Hd (TT (DkS.fresh 640) rfl rfl (by rw [hln]; decide) (by rw [hln]; decide));rw [hln] at FG;clear hln;go_enter Tryz.func22,Tryz.ntmps22;go_wp2_with fail;refine (NY.out _).mono ?_;intro e w1 hm;obtain ⟨d,rfl,hd⟩:=aAZ Br hm;clear hm NY;have HD:=Hd hd;clear hd;have pn:=RN ⟨d,0,none⟩;go_wp2_with fail;refine (TQ HD.out FG.out.1).mono ?_;rintro e w3 ⟨s,rfl,hs⟩;have BG:=Hd (ZH hs FG.out.2.1 FG.out.2.2.1 FG.out.2.2.2);clear hs HD;have sn:=RM ⟨s,0,none⟩;go_wp2_with fail;refine BG.out.mono ?_;rintro e w4 ⟨t,rfl,h1,h2,h3⟩
 have FIN:=Hd (show TxS w [] w4 t d s 640 [] from ⟨⟨0,h1,h2⟩,h3⟩);clear h1 h2 h3 BG;go_wp2_with fail;go_ret;exact ⟨t,d,s,rfl,FIN.out⟩
theorem sM (w:World) :
  Calls Tryz.prog 21 #[] w fun e w' => e=.returned (.bool true)∧Below w.heap.size w w' := by
 have MD:=Hd (uG w);go_enter Tryz.func21,Tryz.ntmps21;try simp only [List.append_eq,List.cons_append,List.nil_append]
 go_wp2_with fail;refine MD.out.mono ?_;rintro e w1 ⟨t,d,s,rfl,h1⟩;have pn:=yN ⟨t,0,none⟩;have RG:=Hd (JD (nm:=⟨#[82,111,111,116]⟩) (f:=⟨#[114,111,111,116]⟩) (li:=9) h1 CpE.nil (by decide) (by decide) (by decide) (by decide +kernel) (by decide +kernel) (by decide) (fun j q hq=>by simp at hq));clear h1 MD;go_wp2_with fail;refine RG.out.mono ?_;rintro e w2 ⟨rfl,h1,_,h2⟩;have MT:=Hd (UM (oi:=0) (ow:=1) (ob:=5) (ri:=7) (ba:=0) (ex:=0) h1 h2 (by decide) (by decide) rfl rfl (by decide) (by decide) (by decide) (by decide) (by decide))
 clear h1 h2 RG;go_wp2_with fail;refine MT.out.mono ?_;rintro e w3 ⟨E3,rfl,h1,_,h2⟩;have c1:ChainE E3 1 [(1,(⟨0,5,1,7,0,1,0,0,false⟩:aS))]:=⟨rfl,h2.getC (i:=0) rfl,.inl ⟨rfl,rfl⟩⟩
 have DR:=Hd (ZD (oi:=0) (ow:=1) (i:=0) (pa:=1) (ri:=3) (ba:=1) (ex:=10) (now:=0) (id:=2) h1 h2 (by decide) (by decide) rfl rfl (by decide) rfl rfl c1 (by decide) (by decide +kernel) (by decide +kernel) (by decide) rfl (by decide) (by decide) (by decide) rfl);clear h1 h2 MT c1;go_wp2_with fail;refine DR.out.mono ?_;rintro e w4 ⟨E4,rfl,h1,_,h2⟩;have c1:ChainE E4 1 [(1,(⟨0,5,1,7,0,1,0,0,false⟩:aS))]:=⟨rfl,h2.getC (i:=0) rfl,.inl ⟨rfl,rfl⟩⟩
 have c2:ChainE E4 2 [(2,(⟨1,5,1,3,1,2,10,0,false⟩:aS)),(1,(⟨0,5,1,7,0,1,0,0,false⟩:aS))]:=⟨rfl,h2.getC (i:=1) rfl,.inr ⟨by decide,c1⟩⟩
 have C2:=Hd c2;have HE:=Hd h2.len;have DU:=Hd (UQ (oi:=0) (ow:=1) (i:=0) (pa:=1) (ri:=8) (ba:=1) (ex:=10) (now:=0) (x:=7) h1 h2 (by decide) rfl rfl rfl rfl c1 (by decide) (by decide +kernel) (by decide +kernel) (by decide) (by decide) (by decide) (by decide));clear h1 h2 DR c1 c2;go_wp2_with fail;refine DU.out.mono ?_;rintro e w5 ⟨rfl,h1,_⟩;have ST:=uP (now:=10) h1 (by have:=HE.out; omega) C2.out (by decide);rw [show stV [(2,(⟨1,5,1,3,1,2,10,0,false⟩:aS)),(1,(⟨0,5,1,7,0,1,0,0,false⟩:aS))] 10=11 by decide +kernel] at ST
 have ST:=Hd ST;clear h1 DU;go_wp2_with fail;refine ST.out.mono ?_;rintro e w6 ⟨rfl,h1,_⟩;have FIN:=Hd h1.from;clear h1 ST;go_wp2_with fail;go_ret;exact ⟨rfl,FIN.out⟩
theorem DD {w0 w:World} {R:List Nat} {t d s n:Nat} {E:List Ent} {bn bt:Nat} {nm:ByteArray} (h:TxS w0 R w t d s n E) (hb:w.heap[bn]?=some (.cells #[.string nm] 9)) (hm:bn∈R∧bn≠t∧w0.heap.size≤bn) (hnm:nm.size≤140737488351232) (hr:aY nm=false) :
  Calls Tryz.prog 63 #[.pointer (some ⟨bn,0,none⟩),.pointer (some ⟨bt,0,none⟩)] w fun e' w' => e'=.returned (.tuple #[.agg #[.int .i64 0,.string ⟨#[]⟩,.int .i64 0,.int .i64 0],.int .i64 1])∧TxS w0 R w' t d s n E∧KeptT R t w w' := by
 obtain ⟨f,hf⟩:∃ f,cE nm=f:=⟨_,rfl⟩
 have FO:=Hd (fun w=>by have:=eJ nm w hnm; rw [hr,hf] at this; exact this);obtain ⟨a1,a2,a3,a4,a5,a6,a7⟩:=h.box (.cells #[.int .i64 0,.string ⟨#[]⟩,.int .i64 0,.int .i64 0] 42);obtain ⟨x1,hx1⟩:∃ x,w.alloc (.cells #[.int .i64 0,.string ⟨#[]⟩,.int .i64 0,.int .i64 0] 42)=x:=⟨_,rfl⟩
 obtain ⟨n0,hn0⟩:∃ n0,w.heap.size=n0:=⟨_,rfl⟩
 rw [hx1] at a1 a2 a3 a5;rw [hn0] at a1 a3 a4 a5 a6 a7;obtain ⟨b1,b2,b3,b4,b5,b6,b7⟩:=a1.box (.cells #[.int .i64 0] 27);obtain ⟨x2,hx2⟩:∃ x,x1.alloc (.cells #[.int .i64 0] 27)=x:=⟨_,rfl⟩
 rw [hx2] at b1 b2 b3 b5;rw [a5] at b1 b3 b4 b5 b6 b7;have hnb:=(b2 bn (by simp [hm.1]) hm.2.1).trans ((a2 bn hm.1 hm.2.1).trans hb);have ct:=(aD hnb).1;have HX:=Hd (And.intro hx1 hx2);have HT:=Hd b1;have HC:=Hd (And.intro ((b2 n0 (by simp) a4).trans a3) b3);have HK:=Hd (a2.trans (b2.sub (R' := R) fun k hk=>by simp [hk]));have HQ:=Hd (And.intro a4 (And.intro a6 (And.intro a7 (And.intro b4 (And.intro b6 b7)))));clear h hb hm hnm hr hf a1 a2 a3 a4 a5 a6 a7 b1 b2 b3 b4 b5 b6 b7 hx1 hx2 hnb;go_enter Tryz.func63,Tryz.ntmps63;go_upto_region 1 with fail
 try rw [HX.out.1,HX.out.2]
 try rw [hn0]
 clear hn0;go_wp2_with fail;refine (FO.out _).mono ?_;rintro e w3 ⟨rfl,b3⟩;have T3:=HT.out.below b3;have c0:=jN HC.out.1 b3;have c1:=jN HC.out.2 b3;have k3:=HT.out.kept b3;obtain ⟨d1,d2,d3,d4,d5,d6,d7⟩:=T3.box (.cells #[.string f] 9);obtain ⟨x4,hx4⟩:∃ x,w3.alloc (.cells #[.string f] 9)=x:=⟨_,rfl⟩
 rw [hx4] at d1 d2 d3 d5;have d0:=(d2 n0 (by simp) HQ.out.1).trans c0;have e0:=(d2 (n0 + 1) (by simp) HQ.out.2.2.2.1).trans c1;have X4:=Hd hx4;have D1:=Hd (d1.sub (R' := (n0 + 1) :: n0 :: R) fun k hk=>by simp at hk ⊢; exact .inr hk);have HD:=Hd (And.intro d0 e0);have K4:=Hd (HK.out.trans ((k3.trans d2).sub (R' := R) fun k hk=>by simp [hk]));clear T3 c0 c1 k3 d1 d2 d3 d4 d5 d6 d7 hx4 b3 ct;go_upto_region 3 with fail
 rw [X4.out];obtain ⟨⟨y0,y1,y2,y3⟩,f0,f1,f2,f3⟩:=cQ d0;obtain ⟨z0,g0⟩:=aD e0;obtain ⟨n1,n2⟩:=BS d0 (.int .i64 0) (.string ⟨#[]⟩) (.int .i64 0) (.int .i64 0);have nn:n0≠n0 + 1:=by omega
 have m1:(stW x4 n0 (.int .i64 0) (.string ⟨#[]⟩) (.int .i64 0) (.int .i64 0)).heap[n0 + 1]?=some (.cells #[.int .i64 0] 27):=(n2.block (n0 + 1) (D1.out.lt.1 _ (by simp)) (fun e=>nn e.symm)).trans e0;have zz:=(aD m1).1;have gg:=(aD m1).2
 have FIN:Hid (((stW x4 n0 (.int .i64 0) (.string ⟨#[]⟩) (.int .i64 0) (.int .i64 0)).setCell ⟨n0 + 1,0,none⟩ (.int .i64 1)).heap[n0]?=some (.cells #[.int .i64 0,.string ⟨#[]⟩,.int .i64 0,.int .i64 0] 42)∧((stW x4 n0 (.int .i64 0) (.string ⟨#[]⟩) (.int .i64 0) (.int .i64 0)).setCell ⟨n0 + 1,0,none⟩ (.int .i64 1)).heap[n0 + 1]?=some (.cells #[.int .i64 1] 27)∧TxS w0 R ((stW x4 n0 (.int .i64 0) (.string ⟨#[]⟩) (.int .i64 0) (.int .i64 0)).setCell ⟨n0 + 1,0,none⟩ (.int .i64 1)) t d s n E∧KeptT R t w ((stW x4 n0 (.int .i64 0) (.string ⟨#[]⟩) (.int .i64 0) (.int .i64 0)).setCell ⟨n0 + 1,0,none⟩ (.int .i64 1))):=Hd (by
  have t1:=D1.out.turn (k:=n0) (by simp) HQ.out.1 HQ.out.2.1 n2;have fr:Frm (fun k=>k=n0 + 1) (stW x4 n0 (.int .i64 0) (.string ⟨#[]⟩) (.int .i64 0) (.int .i64 0)) ((stW x4 n0 (.int .i64 0) (.string ⟨#[]⟩) (.int .i64 0) (.int .i64 0)).setCell ⟨n0 + 1,0,none⟩ (.int .i64 1)):=(Frm.refl _ _).setCell _ _ (.inl rfl);have t2:=t1.turn (k:=n0 + 1) (by simp) HQ.out.2.2.2.1 HQ.out.2.2.2.2.1 fr;refine ⟨(fr.block n0 (t1.lt.1 _ (by simp)) nn).trans n1,by rw [hss _ _ 0 _ _ _ m1]; rfl,t2.sub (fun k hk=>by simp [hk]),fun k hk hn=>?_⟩;have k1:k≠n0:=HQ.out.2.2.1 k hk
  have k2:k≠n0 + 1:=HQ.out.2.2.2.2.2 k (by simp [hk]);exact (fr.block k (t1.lt.1 k (by simp [hk])) k2).trans ((n2.block k (D1.out.lt.1 k (by simp [hk])) k1).trans (K4.out k hk hn)))
 unfold stW at FIN m1 zz gg;clear n1 n2 m1 d0 e0;go_wp2_with fail;have FF:=FIN.out;clear FIN zz gg y0 y1 y2 y3 f0 f1 f2 f3 z0 g0 D1 HD K4 X4;generalize (((((x4.setCell ⟨n0,0,none⟩ (.int .i64 0)).setCell ⟨n0,1,none⟩ (.string ⟨#[]⟩)).setCell ⟨n0,2,none⟩ (.int .i64 0)).setCell ⟨n0,3,none⟩ (.int .i64 0)).setCell ⟨n0 + 1,0,none⟩ (.int .i64 1))=W' at FF ⊢;obtain ⟨u0,u1,u2⟩:=FF
 exact bodyPost_ret (v:=.tuple #[.agg #[.int .i64 0,.string ⟨#[]⟩,.int .i64 0,.int .i64 0],.int .i64 1]) (gV (fn:=Tryz.f63) rfl _ W' n0 42 _ (0,0) _ _ _ rfl u0 Tryz.underlying42 rfl dD rfl (rX rfl Tryz.underlying27 (aD u1).1)) rfl ⟨rfl,u2⟩
theorem QQ {w0 w:World} {R:List Nat} {t d s n:Nat} {E:List Ent} {bn bl bt:Nat} {nm:ByteArray} {li:Int} (h:TxS w0 R w t d s n E) (hb:w.heap[bn]?=some (.cells #[.string nm] 9)) (hl:w.heap[bl]?=some (.cells #[.int .i64 li] 3)) (hnm:nm.size≤140737488351232) (hr:aY nm=false) :
  Calls Tryz.prog 68 #[.pointer (some ⟨bn,0,none⟩),.pointer (some ⟨bl,0,none⟩),.pointer (some ⟨bt,0,none⟩)] w fun e' w' => e'=.returned (.tuple #[.int .i64 0,.int .i64 1])∧TxS w0 R w' t d s n E∧KeptT R t w w' := by
 obtain ⟨f,hf⟩:∃ f,cE nm=f:=⟨_,rfl⟩
 have FO:=Hd (fun w=>by have:=eJ nm w hnm; rw [hr,hf] at this; exact this);have c0:=(aD hb).1;have H0:=Hd h;clear h hb hl hnm hr hf;go_enter Tryz.func68,Tryz.ntmps68;go_wp2_with fail;refine (FO.out _).mono ?_;rintro e w2 ⟨rfl,b2⟩;have FIN:=Hd (And.intro (H0.out.below b2) (H0.out.kept b2));clear b2 c0;go_wp2_with fail;go_ret2;exact ⟨rfl,FIN.out⟩
theorem EW {w0 w:World} {R:List Nat} {t d s n:Nat} {E:List Ent} {nm:ByteArray} (h:TxS w0 R w t d s n E) (hnm:nm.size≤140737488351232) (hr:aY nm=false) :
  Calls Tryz.prog 23 #[.pointer (some ⟨t,0,none⟩),.string nm] w fun e' w' => e'=.returned (.tuple #[.agg #[.int .i64 0,.string ⟨#[]⟩,.int .i64 0,.int .i64 0],.int .i64 1])∧TxS w0 R w' t d s n E∧KeptT R t w w' :=
 wC h (.inr ⟨by decide,rfl,rfl,rfl,rfl⟩) fun R' wa b0 b1 hT g0 g1 gm=>DD hT g1 gm.2 hnm hr
theorem UF {w0 w:World} {R:List Nat} {t d s n:Nat} {E:List Ent} {nm:ByteArray} {li:Int} (h:TxS w0 R w t d s n E) (hnm:nm.size≤140737488351232) (hr:aY nm=false) :
  Calls Tryz.prog 24 #[.pointer (some ⟨t,0,none⟩),.string nm,.int .i64 li] w fun e' w' => e'=.returned (.tuple #[.int .i64 0,.int .i64 1])∧TxS w0 R w' t d s n E∧KeptT R t w w' :=
 wB (x:=0) h (.inr ⟨by decide,rfl⟩) fun R' wa b0 b1 b2 hT g0 g1 g2 gm=>QQ hT g1 g2 hnm hr
def jP:List (ByteArray × Int)→ByteArray→Option Int
 | [],_=>none
 | p :: L,k=>if p.1=k then some p.2 else jP L k
theorem iF (p:ByteArray × Int) (L:List (ByteArray × Int)) (k:ByteArray):jP (p :: L) k=if p.1=k then some p.2 else jP L k:=rfl
def OK (L:List (ByteArray × Int)) (l:List MapEntry):Prop:=l.map (fun e=>(e.key,e.val))=L.map (fun p=>(Value.string p.1,Value.int .i64 p.2))
def MapS (w:World) (m:Nat) (L:List (ByteArray × Int)):Prop:=∃ es clock,w.heap[m]?=some (.map es clock)∧OK L es.toList
theorem MapS.kept {w w' : World} {m:Nat} {L:List (ByteArray × Int)} (h:MapS w m L) (e:w'.heap[m]?=w.heap[m]?):MapS w' m L:=by
 obtain ⟨es,c,hb,he⟩:=h;exact ⟨es,c,e.trans hb,he⟩
theorem QH (a b:ByteArray):Instr.sameNow .string (.string a) (.string b)=some (decide (a=b)):=by
 have hb:∀ a b:ByteArray,(a == b)=(a.data == b.data):=fun ⟨_⟩ ⟨_⟩=>rfl
 simp only [Instr.sameNow]
 congr 1
 rw [Bool.eq_iff_iff,hb,beq_iff_eq,decide_eq_true_eq];exact ⟨fun h=>ByteArray.ext h,fun h=>by rw [h]⟩
theorem TW (n:ByteArray):∀ (l:List MapEntry) (L:List (ByteArray × Int)) (i:Nat),OK L l →
  (Instr.findNow .string (.string n) l i=some none∧jP L n=none)∨∃ j v,Instr.findNow .string (.string n) l i=some (some (i + j,.int .i64 v))∧jP L n=some v
 | [],L,_,h=>by
  cases L with
  | nil=>exact .inl ⟨rfl,rfl⟩
  | cons p L=>simp [OK] at h
 | e :: l,[],_,h=>by simp [OK] at h
 | e :: l,p :: L,i,h=>by
  simp only [OK,List.map_cons,List.cons.injEq,Prod.mk.injEq] at h
  by_cases hp:p.1=n
  ·refine .inr ⟨0,p.2,?_,?_⟩
   ·have hs:Instr.sameNow .string (.string n) e.key=some true:=by rw [h.1.1,QH,hp]; simp
    simp only [Instr.findNow,hs,h.1.2,Nat.add_zero]
   ·rw [iF,if_pos hp]
  ·have hs:Instr.sameNow .string (.string n) e.key=some false:=by
    rw [h.1.1,QH,decide_eq_false (Ne.symm hp)]
   rcases TW n l L (i + 1) h.2 with ⟨h1,h2⟩ | ⟨j,v,h1,h2⟩
   ·exact .inl ⟨by simp only [Instr.findNow,hs]; exact h1,by rw [iF,if_neg hp]; exact h2⟩
   ·exact .inr ⟨j + 1,v,by simp only [Instr.findNow,hs]; rw [h1]; congr 3; omega,by rw [iF,if_neg hp]; exact h2⟩
section
variable {P:Program} {w:World} {m:Nat} {L:List (ByteArray × Int)} {t k e:TypeId} (ht:P.underlying t=some (.map k e)) (hk:P.underlying k=some .string)
include ht hk
theorem zA (h:MapS w m L) (n:ByteArray) (hz:(zeroValue e).run P w=.ok (.int .i64 0) w) {r:Int} (hr:(jP L n).getD 0=r) :
  (Instr.lookup t (.map (some m)) (.string n) false).run P w=.ok (.int .i64 r) w:=by
 obtain ⟨es,c,hb,he⟩:=h;subst hr;have h1:=MapKept.run_getObj_map (P:=P) hb;have h2:=MapKept.run_checkKey (P:=P) (w:=w) hk (k:=.string n) (by first | rfl | trivial | exact ⟨_,rfl⟩) es.isEmpty 9999
 rcases TW n es.toList L 0 he with ⟨f1,f2⟩ | ⟨j,v,f1,f2⟩
 ·have h3:=MapKept.run_findKey (P:=P) (w:=w) hk f1
  rw [f2];simp [Instr.lookup,run_underlying ht,h1,h2,h3,hz]
 ·have h3:=MapKept.run_findKey (P:=P) (w:=w) hk f1
  rw [f2];simp [Instr.lookup,run_underlying ht,h1,h2,h3]
theorem OY (h:MapS w m L) (n:ByteArray) (v:Int) (hn:jP L n=none) :
  ∃ w', (Instr.mapUpdate t (.map (some m)) (.string n) (.int .i64 v)).run P w=.ok () w'∧MapS w' m (L ++ [(n,v)])∧Frm (fun x=>x=m) w w' := by
 obtain ⟨es,c,hb,he⟩:=h;have h1:=MapKept.run_getObj_map (P:=P) hb;have h2:=MapKept.run_checkKey (P:=P) (w:=w) hk (k:=.string n) (by first | rfl | trivial | exact ⟨_,rfl⟩) false 9999
 rcases TW n es.toList L 0 he with ⟨f1,f2⟩ | ⟨j,u,f1,f2⟩
 ·have h3:=MapKept.run_findKey (P:=P) (w:=w) hk f1
  have h4:=MapKept.run_setObj_map (P:=P) (.map (es.push { key:=.string n,val:=.int .i64 v,born:=c }) (c + 1)) hb;refine ⟨_,by simp [Instr.mapUpdate,run_underlying ht,h1,h2,h3,h4]; rfl,⟨_,_,(MapKept.heap_set hb).1,?_⟩,(Frm.refl _ w).setObj m _ (.inl rfl)⟩;unfold OK at *;rw [Array.toList_push,List.map_append,he,List.map_append]
  rfl
 ·rw [hn] at f2; cases f2
end
theorem BK {w:World} {a:Option Addr} {len cap:Nat} {ss:List ByteArray} (hk:IsStrs w a len cap ss) (j:Nat) (hj:j < len):∃ x s,a=some x∧Hid ((∀ wr,Below w.heap.size w wr→wr.cell? (x.add j)=some (.string s))∧ss.getD j ByteArray.empty=s):=by
 rcases hk with ⟨rfl,rfl,rfl,rfl⟩ | ⟨x,rfl,h1,h2,h3,h4,h5⟩
 ·omega
 ·have hjl:j < ss.length:=by omega
  refine ⟨x,_,rfl,Hd ⟨fun wr hb=>?_,rfl⟩⟩;have hc:=h4 j hjl
  have hlt:(x.add j).block < w.heap.size:=by
   unfold World.cell? at hc
   cases hq:w.heap[(x.add j).block]? with
   | none=>rw [hq] at hc; simp at hc
   | some b=>exact (zl hq)
  exact (hb.cell hlt).trans hc
end Go.Proofs.YtblbiihpfjjhhaaGreatDoor
