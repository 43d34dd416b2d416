/-
 CaptNamesLaw.
-/
import Derived.Test.YtblbiihpfjjhhaaGreatDoorN21
import Derived.Deep.DeepCutAuto
import Derived.Deep.CutBlock
namespace Go.Proofs.YtblbiihpfjjhhaaGreatDoor
open Go Go.RowKit
set_option maxRecDepth 20000
set_option maxHeartbeats 12800000
set_option linter.unusedVariables false
set_option linter.unusedSimpArgs false
def dL:Nat→List aN→List (ByteArray × Int)
 | _,[]=>[]
 | i,o :: r=>(o.nm,(i:Int) + 1) :: dL (i + 1) r
theorem pT:∀ (os:List aN) (i:Nat) (o:aN),dL i (os ++ [o])=dL i os ++ [(o.nm,((i + os.length:Nat):Int) + 1)]
 | [],i,o=>rfl
 | p :: r,i,o=>by
  show (p.nm,(i:Int) + 1) :: dL (i + 1) (r ++ [o])=_
  rw [pT r (i + 1) o,show i + 1 + r.length=i + (p :: r).length by rw [List.length_cons]; omega]
  rfl
theorem rU (f:ByteArray):∀ (os:List aN) (i:Nat),(∃ (k:Nat) (p:aN),os[k]?=some p∧p.nm=f∧(∀ (j:Nat) (q:aN),j < k→os[j]?=some q→q.nm≠f)∧jP (dL i os) f=some (((i + k:Nat):Int) + 1))∨((∀ (j:Nat) (q:aN),os[j]?=some q→q.nm≠f)∧jP (dL i os) f=none)
 | [],i=>.inr ⟨fun j q h=>by simp at h,rfl⟩
 | o :: r,i=>by
  by_cases hp:o.nm=f
  ·exact .inl ⟨0,o,rfl,hp,fun j q hj=>by omega,by show jP ((o.nm,(i:Int) + 1) :: dL (i + 1) r) f=_; rw [iF,if_pos hp]; rfl⟩
  ·rcases rU f r (i + 1) with ⟨k,p,h1,h2,h3,h4⟩ | ⟨h1,h2⟩
   ·refine .inl ⟨k + 1,p,by simpa using h1,h2,fun j q hj hq=>?_,?_⟩
    ·cases j with
     | zero =>
      have e:o=q:=by simpa using hq
      rw [← e]; exact hp
     | succ j=>exact h3 j q (by omega) (by simpa using hq)
    ·show jP ((o.nm,(i:Int) + 1) :: dL (i + 1) r) f=_
     rw [iF,if_neg hp,h4,show i + 1 + k=i + (k + 1) by omega]
   ·refine .inr ⟨fun j q hq=>?_,?_⟩
    ·cases j with
     | zero =>
      have e:o=q:=by simpa using hq
      rw [← e]; exact hp
     | succ j=>exact h1 j q (by simpa using hq)
    ·show jP ((o.nm,(i:Int) + 1) :: dL (i + 1) r) f=_
     rw [iF,if_neg hp,h2]
theorem SO (os:List aN) (f:ByteArray):(∃ (i:Nat) (p:aN),os[i]?=some p∧p.nm=f∧wM os f ((i:Int) + 1) p 0∧(jP (dL 0 os) f).getD 0=(i:Int) + 1)∨((∀ (j:Nat) (q:aN),os[j]?=some q→q.nm≠f)∧wM os f 0 ⟨⟨#[]⟩,0,0⟩ 3∧jP (dL 0 os) f=none):=by
 rcases rU f os 0 with ⟨k,p,h1,h2,h3,h4⟩ | ⟨h1,h2⟩
 ·rw [Nat.zero_add] at h4
  exact .inl ⟨k,p,h1,h2,.inl ⟨k,h1,rfl,h2,rfl,h3⟩,by rw [h4]; rfl⟩
 ·exact .inr ⟨h1,.inr ⟨h1,rfl,rfl,rfl⟩,h2⟩
theorem tF (w:World):(zeroValue 3).run Tryz.prog w=.ok (.int .i64 0) w:=by kernel_rfl
def NmS (w0:World) (R:List Nat) (w:World) (t d s mb:Nat) (os:List aN):Prop :=
 ∃ E,TxS w0 (mb :: R) w t d s 640 E∧CpE E [] os [] (2 * os.length)∧os.length≤20∧MapS w mb (dL 0 os)∧mb≠t∧w0.heap.size≤mb
section
variable {w0 w:World} {R:List Nat} {t d s mb:Nat} {os:List aN}
theorem NmS.from (h:NmS w0 R w t d s mb os):Below w0.heap.size w0 w:=by
 obtain ⟨E,h1,_⟩:=h;exact h1.from
theorem NmS.sub {R' : List Nat} (h:NmS w0 R w t d s mb os) (hs:∀ k∈R', k∈R):NmS w0 R' w t d s mb os:=by
 obtain ⟨E,h1,h2⟩:=h;exact ⟨E,h1.sub fun k hk=>by simp only [List.mem_cons] at hk ⊢; exact hk.imp id (hs k),h2⟩
theorem NmS.box (h:NmS w0 R w t d s mb os) (o:Obj):NmS w0 (w.heap.size :: R) (w.alloc o) t d s mb os∧(w.alloc o).heap[w.heap.size]?=some o∧w.heap.size≠t∧(KeptT R t w (w.alloc o)):=by
 obtain ⟨E,h1,h2,h3,h4,h5,h6⟩:=h;obtain ⟨a1,a2,a3,a4,a5,a6,a7⟩:=h1.box o;exact ⟨⟨E,a1.sub fun k hk=>by simp only [List.mem_cons] at hk ⊢; rcases hk with hk | hk | hk <;> simp [hk],h2,h3,h4.kept (a2 mb (by simp) h5),h5,h6⟩,a3,a4,a2.sub fun k hk=>by simp [hk]⟩
theorem NmS.step {w' : World} {E:List Ent} (h1:TxS w0 (mb :: R) w' t d s 640 E) (h2:KeptT (mb :: R) t w w') (hc:CpE E [] os [] (2 * os.length)) (hl:os.length≤20) (hm:MapS w mb (dL 0 os)) (h5:mb≠t) (h6:w0.heap.size≤mb):NmS w0 R w' t d s mb os :=
 ⟨E,h1,hc,hl,hm.kept (h2 mb (by simp) h5),h5,h6⟩
theorem yX (h:NmS w0 R w t d s mb os) {nm:ByteArray} (hz:nm.size≤140737488351232) :
  (aY nm=false∧Calls Tryz.prog 23 #[.pointer (some ⟨t,0,none⟩),.string nm] w fun e w' => e=.returned (.tuple #[.agg #[.int .i64 0,.string ⟨#[]⟩,.int .i64 0,.int .i64 0],.int .i64 1])∧NmS w0 R w' t d s mb os∧KeptT R t w w') ∨
  (∃ (i:Nat) (p:aN),aY nm=true∧os[i]?=some p∧p.nm=cE nm∧wM os (cE nm) ((i:Int) + 1) p 0∧(jP (dL 0 os) (cE nm)).getD 0=(i:Int) + 1∧Calls Tryz.prog 23 #[.pointer (some ⟨t,0,none⟩),.string nm] w fun e w' => e=.returned (.tuple #[.agg #[.int .i64 ((i:Int) + 1),.string p.nm,.int .i64 p.li,.int .i64 p.ha],.int .i64 0])∧NmS w0 R w' t d s mb os∧KeptT R t w w') ∨
  (aY nm=true∧(∀ (j:Nat) (q:aN),os[j]?=some q→q.nm≠cE nm)∧jP (dL 0 os) (cE nm)=none∧Calls Tryz.prog 23 #[.pointer (some ⟨t,0,none⟩),.string nm] w fun e w' => e=.returned (.tuple #[.agg #[.int .i64 0,.string ⟨#[]⟩,.int .i64 0,.int .i64 0],.int .i64 3])∧NmS w0 R w' t d s mb os∧KeptT R t w w'):=by
 obtain ⟨E,h1,h2,h3,h4,h5,h6⟩:=h;have hE:=h2.len
 cases hr:aY nm with
 | false =>
  refine .inl ⟨rfl,(EW h1 hz hr).mono ?_⟩;rintro e w' ⟨rfl,g1,g2⟩;exact ⟨rfl,NmS.step g1 g2 h2 h3 h4 h5 h6,g2.sub fun k hk=>by simp [hk]⟩
 | true =>
  rcases SO os (cE nm) with ⟨i,p,q1,q2,q3,q4⟩ | ⟨q1,q2,q3⟩
  ·refine .inr (.inl ⟨i,p,rfl,q1,q2,q3,q4,(mH h1 (by omega) h2.keys h2.owners h2.ownOk hz hr rfl q3).mono ?_⟩)
   rintro e w' ⟨rfl,g1,g2⟩;exact ⟨rfl,NmS.step g1 g2 h2 h3 h4 h5 h6,g2.sub fun k hk=>by simp [hk]⟩
  ·refine .inr (.inr ⟨rfl,q1,q3,(mH h1 (by omega) h2.keys h2.owners h2.ownOk hz hr rfl q2).mono ?_⟩)
   rintro e w' ⟨rfl,g1,g2⟩;exact ⟨rfl,NmS.step g1 g2 h2 h3 h4 h5 h6,g2.sub fun k hk=>by simp [hk]⟩
theorem aAX (h:NmS w0 R w t d s mb os) {nm:ByteArray} {li:Int} (hz:nm.size≤140737488351232) (hr:aY nm=false) :
  Calls Tryz.prog 24 #[.pointer (some ⟨t,0,none⟩),.string nm,.int .i64 li] w fun e w' => e=.returned (.tuple #[.int .i64 0,.int .i64 1])∧NmS w0 R w' t d s mb os∧KeptT R t w w' := by
 obtain ⟨E,h1,h2,h3,h4,h5,h6⟩:=h;refine (UF h1 hz hr).mono ?_;rintro e w' ⟨rfl,g1,g2⟩;exact ⟨rfl,NmS.step g1 g2 h2 h3 h4 h5 h6,g2.sub fun k hk=>by simp [hk]⟩
theorem aB7 (h:NmS w0 R w t d s mb os) {nm:ByteArray} {li:Int} (hz:nm.size≤140737488351232) (hr:aY nm=true) (hli:0≤li∧li≤1000) {i:Int} {p:aN} (hx:wM os (cE nm) i p 0) :
  Calls Tryz.prog 24 #[.pointer (some ⟨t,0,none⟩),.string nm,.int .i64 li] w fun e w' => e=.returned (.tuple #[.int .i64 0,.int .i64 14])∧NmS w0 R w' t d s mb os∧KeptT R t w w' := by
 obtain ⟨E,h1,h2,h3,h4,h5,h6⟩:=h;refine (YX h1 h2 (by omega) hz hr rfl hli hx).mono ?_;rintro e w' ⟨rfl,g1,g2⟩;exact ⟨rfl,NmS.step g1 g2 h2 h3 h4 h5 h6,g2.sub fun k hk=>by simp [hk]⟩
def NmQ (w0:World) (R:List Nat) (w:World) (t d s mb:Nat) (os:List aN) (o:aN):Prop :=
 ∃ E,TxS w0 (mb :: R) w t d s 640 E∧CpE E [] (os ++ [o]) [] (2 * os.length + 2)∧os.length≤19∧MapS w mb (dL 0 os)∧mb≠t∧w0.heap.size≤mb
theorem aAV (h:NmS w0 R w t d s mb os) {nm:ByteArray} {li:Int} (hz:nm.size≤140737488351232) (hr:aY nm=true) (hli:0≤li∧li≤1000) (hl:os.length≤19) (hnew:∀ (j:Nat) (q:aN),os[j]?=some q→q.nm≠cE nm) {id:Int} (hid:(os.length:Int) + 1=id) :
  Calls Tryz.prog 24 #[.pointer (some ⟨t,0,none⟩),.string nm,.int .i64 li] w fun e w' => e=.returned (.tuple #[.int .i64 id,.int .i64 0])∧NmQ w0 R w' t d s mb os ⟨cE nm,li,0⟩∧KeptT R t w w' := by
 obtain ⟨E,h1,h2,h3,h4,h5,h6⟩:=h;subst hid;refine (JD h1 h2 (by omega) (by omega) hz hr rfl hli hnew).mono ?_;rintro e w' ⟨rfl,g1,g2,g3⟩;exact ⟨rfl,⟨_,g1,g3,hl,h4.kept (g2 mb (by simp) h5),h5,h6⟩,g2.sub fun k hk=>by simp [hk]⟩
theorem aAW {o:aN} (h:NmQ w0 R w t d s mb os o) {id:Int} (hid:(os.length:Int) + 1=id) :
  Calls Tryz.prog 25 #[.pointer (some ⟨t,0,none⟩),.int .i64 id] w fun e w' => e=.returned (.tuple #[.agg #[.int .i64 id,.string o.nm,.int .i64 o.li,.int .i64 o.ha],.int .i64 0])∧NmQ w0 R w' t d s mb os o∧KeptT R t w w' := by
 obtain ⟨E,h1,h2,h3,h4,h5,h6⟩:=h;subst hid;have hE:=h2.len;have hg:=h2.getO (i:=os.length) (o:=o) (by simp);refine (mG h1 (by omega) hg).mono ?_;rintro e w' ⟨rfl,g1,g2⟩;exact ⟨rfl,⟨_,g1,h2,h3,h4.kept (g2 mb (by simp) h5),h5,h6⟩,g2.sub fun k hk=>by simp [hk]⟩
theorem NmQ.box {o:aN} (h:NmQ w0 R w t d s mb os o) (b:Obj):NmQ w0 (w.heap.size :: R) (w.alloc b) t d s mb os o∧(w.alloc b).heap[w.heap.size]?=some b∧w.heap.size≠t:=by
 obtain ⟨E,h1,h2,h3,h4,h5,h6⟩:=h;obtain ⟨a1,a2,a3,a4,a5,a6,a7⟩:=h1.box b;exact ⟨⟨E,a1.sub fun k hk=>by simp only [List.mem_cons] at hk ⊢; rcases hk with hk | hk | hk <;> simp [hk],h2,h3,h4.kept (a2 mb (by simp) h5),h5,h6⟩,a3,a4⟩
theorem NmQ.look {o:aN} (h:NmQ w0 R w t d s mb os o) {f:ByteArray} (hn:jP (dL 0 os) f=none):(Instr.lookup 40 (.map (some mb)) (.string f) false).run Tryz.prog w=.ok (.int .i64 0) w:=by
 obtain ⟨E,h1,h2,h3,h4,h5,h6⟩:=h;exact zA (P:=Tryz.prog) Tryz.underlying40 Tryz.underlying9 h4 f (tF w) (by rw [hn]; rfl)
theorem NmS.look (h:NmS w0 R w t d s mb os) {f:ByteArray} {r:Int} (hr:(jP (dL 0 os) f).getD 0=r):(Instr.lookup 40 (.map (some mb)) (.string f) false).run Tryz.prog w=.ok (.int .i64 r) w:=by
 obtain ⟨E,h1,h2,h3,h4,h5,h6⟩:=h;exact zA (P:=Tryz.prog) Tryz.underlying40 Tryz.underlying9 h4 f (tF w) hr
theorem NmQ.put {o:aN} (h:NmQ w0 R w t d s mb os o) (hn:jP (dL 0 os) o.nm=none) {id:Int} (hid:(os.length:Int) + 1=id):∃ w', (Instr.mapUpdate 40 (.map (some mb)) (.string o.nm) (.int .i64 id)).run Tryz.prog w=.ok () w'∧NmS w0 R w' t d s mb (os ++ [o]):=by
 obtain ⟨E,h1,h2,h3,h4,h5,h6⟩:=h;obtain ⟨w', g1,g2,g3⟩:=OY (P:=Tryz.prog) Tryz.underlying40 Tryz.underlying9 h4 o.nm id hn;refine ⟨w', g1,E,h1.turn (k:=mb) (by simp) h5 h6 g3,?_,by rw [List.length_append]; show os.length + 1≤20; omega,?_,h5,h6⟩
 ·rw [List.length_append]; exact h2
 ·rw [pT,Nat.zero_add,hid]; exact g2
end
theorem captNames_law (a:Option Addr) (len cap:Nat) (ss:List ByteArray) (a1:ByteArray) (w:World) (hk:IsStrs w a len cap ss) (hz:∀ j,j < len→(ss.getD j ByteArray.empty).size≤140737488351232) (z1:a1.size≤140737488351232) :
  Calls Tryz.prog 4 #[.slice a len cap,.string a1] w fun e w' => e=.returned (.bool true)∧Below w.heap.size w w' := by
 have CELLS:=Hd (BK hk);have HZ:=Hd hz;have HZ1:=Hd z1
 have hlenL:(len:Int)≤9223372036854775807:=by
  rcases hk with ⟨_,rfl,_,_⟩ | ⟨_,_,h1,h2,_⟩
  ·decide
  ·unfold maxLen at h2; omega
 clear hk hz z1;go_enter Tryz.func4,Tryz.ntmps4;try simp only [List.append_eq,List.cons_append,List.nil_append]
 go_wp2_with fail;refine (sM _).mono ?_;rintro e w1 ⟨rfl,b1⟩;have B1:=Hd b1;clear b1;go_wp2_with fail;refine (uG _).mono ?_;rintro e w2 ⟨t,d,s,rfl,h1⟩;have sn:=yN ⟨t,0,none⟩;have hm1:(Instr.makeMap 40 none).run Tryz.prog w2=.ok (.map (some w2.heap.size)) (w2.alloc (.map #[] 0)):=by simp [Instr.makeMap]
 obtain ⟨a1', a2', a3,a4,a5,a6,a7⟩:=h1.box (.map #[] 0);obtain ⟨mb,hmb⟩:∃ b,w2.heap.size=b:=⟨_,rfl⟩
 obtain ⟨x1,hx1⟩:∃ x,w2.alloc (.map #[] 0)=x:=⟨_,rfl⟩
 rw [hx1] at a1' a3 hm1;rw [hmb] at a1' a3 a4 a6 hm1;have HT0:Hid (NmS w1 [] x1 t d s mb []):=Hd ⟨[],a1', CpE.nil,by decide,⟨_,_,a3,rfl⟩,a4,a6⟩;clear h1 a1' a2' a3 a4 a5 a6 a7 hx1 hmb
 go_upto_block 0 with fail
 go_cut [] (fun wc=>∃ os,Hid (NmS w1 [] wc t d s mb os))
 case first =>
  clear hm1;go_wp2_with fail
  go_loopw [8,9] (fun nv i wr=>∃ (j:Nat) (os:List aN),i=.int .i64 (j:Int)∧nv=.int .i64 (os.length:Int)∧j≤len∧j≤20∧os.length≤j∧Hid (NmS w1 [] wr t d s mb os)) (fun _ i _=>21 - (intOf i).toNat)
  case atStart=>exact ⟨0,[],rfl,rfl,Nat.zero_le _,Nat.zero_le _,Nat.le_refl _,HT0⟩
  case round =>
   obtain ⟨j,os,rfl,rfl,hj1,hj2,hj3,HT⟩:=hrel
   by_cases hjl:j < len
   ·have hjli:(j:Int) < (len:Int):=by omega
    by_cases hlt:j < 20
    ·have hli:(j:Int) < 20:=by omega
     obtain ⟨x,nm,hax,CELL⟩:=CELLS.out j hjl;subst hax;have HNM:=Hd (show nm.size≤140737488351232 by have:=HZ.out j hjl; rw [CELL.out.2] at this; exact this);have HJL:Hid (j + 1≤len∧j + 1≤20∧os.length≤j):=Hd ⟨by omega,by omega,hj3⟩;have e4:IntKind.i64.wrap ((j:Int) + 1)=((j + 1:Nat):Int):=by rw [show (j:Int) + 1=((j + 1:Nat):Int) by omega]; exact IntWalk.i64_in _ (by omega)
     have ca:=CELL.out.1 wr (chain B1.out HT.out.from);have NR:=yX HT.out HNM.out;clear hj1 hj2 hj3 hjl hlt
     rcases NR with ⟨hr,NC⟩ | ⟨i,p,hr,hp,hpn,hnr,hg,NC⟩ | ⟨hr,hnew,hg,NC⟩
     ·have NC:=Hd NC
      have HR:=Hd hr;clear hr;go_wp2_with fail;refine NC.out.mono ?_;rintro e w4 ⟨rfl,h1,_⟩;obtain ⟨c1,c2,c3,c4⟩:=h1.box (.cells #[.int .i64 0,.string ⟨#[]⟩,.int .i64 0,.int .i64 0] 42);obtain ⟨x4,hx4⟩:∃ x,w4.alloc (.cells #[.int .i64 0,.string ⟨#[]⟩,.int .i64 0,.int .i64 0] 42)=x:=⟨_,rfl⟩
      rw [hx4] at c1 c2 c4;have X4:=Hd hx4;have RG:=Hd (aAX (li:=(j:Int)) c1 HNM.out HR.out);have ca4:=CELL.out.1 x4 (chain B1.out c1.from);clear h1 c1 c2 c3 c4 hx4 NC ca HT;go_upto_region 13 with fail
      rw [X4.out];go_wp2_with fail;refine RG.out.mono ?_;rintro e w5 ⟨rfl,h1,_⟩;have T5:=Hd (h1.sub (R' := []) fun k hk=>by cases hk);clear h1 RG ca4;go_wp2_with fail;go_roundw
      case rel=>exact ⟨j + 1,os,rfl,rfl,HJL.out.1,HJL.out.2.1,by have:=HJL.out; omega,T5⟩
      case measure=>have:=HJL.out; simp [intOf]; omega
     ·have NC:=Hd NC
      have HR:=Hd (And.intro hr (And.intro hpn (And.intro hnr hg)));obtain ⟨id,hid⟩:∃ id:Int,(i:Int) + 1=id:=⟨_,rfl⟩
      have HID:=Hd hid;clear hr hp hpn hnr hg;go_wp2_with fail;refine NC.out.mono ?_;rintro e w4 ⟨rfl,h1,_⟩;rw [hid];obtain ⟨c1,c2,c3,c4⟩:=h1.box (.cells #[.int .i64 id,.string p.nm,.int .i64 p.li,.int .i64 p.ha] 42);obtain ⟨x4,hx4⟩:∃ x,w4.alloc (.cells #[.int .i64 id,.string p.nm,.int .i64 p.li,.int .i64 p.ha] 42)=x:=⟨_,rfl⟩
      obtain ⟨bx,hbx⟩:∃ b,w4.heap.size=b:=⟨_,rfl⟩
      rw [hx4] at c1 c2 c4;rw [hbx] at c1 c2 c3;have X4:=Hd (And.intro hx4 hbx);have C2:=Hd (And.intro c2 c3);have RG:=Hd (aB7 (li:=(j:Int)) c1 HNM.out HR.out.1 (by have:=HJL.out; omega) HR.out.2.2.1);have ca4:=CELL.out.1 x4 (chain B1.out c1.from);clear h1 c1 c2 c3 c4 hx4 hbx NC ca HT hid;go_upto_region 13 with fail
      rw [X4.out.1];try rw [X4.out.2]
      go_wp2_with fail;refine RG.out.mono ?_;rintro e w5 ⟨rfl,h1,h2⟩;obtain ⟨⟨y0,y1,y2,y3⟩,_⟩:=cQ ((h2 bx (by simp) C2.out.2).trans C2.out.1);have LK:=h1.look (f:=p.nm) (r:=id) (by rw [HR.out.2.1,HR.out.2.2.2,HID.out]);have T5:=Hd (h1.sub (R' := []) fun k hk=>by cases hk);clear h1 h2 RG ca4;go_wp2_with fail;go_roundw
      case rel=>exact ⟨j + 1,os,rfl,rfl,HJL.out.1,HJL.out.2.1,by have:=HJL.out; omega,T5⟩
      case measure=>have:=HJL.out; simp [intOf]; omega
     ·have NC:=Hd NC
      have HR:=Hd (And.intro hr (And.intro hnew hg));obtain ⟨id,hid⟩:∃ id:Int,(os.length:Int) + 1=id:=⟨_,rfl⟩
      have HID:=Hd hid;have e5:IntKind.i64.wrap ((os.length:Int) + 1)=id:=by rw [hid]; exact IntWalk.i64_in _ (by have:=HJL.out; omega)
      obtain ⟨f,hf⟩:∃ f,cE nm=f:=⟨_,rfl⟩
      have HF:=Hd hf;clear hr hnew hg hid hf;go_wp2_with fail;refine NC.out.mono ?_;rintro e w4 ⟨rfl,h1,_⟩;obtain ⟨c1,c2,c3,c4⟩:=h1.box (.cells #[.int .i64 0,.string ⟨#[]⟩,.int .i64 0,.int .i64 0] 42);obtain ⟨x4,hx4⟩:∃ x,w4.alloc (.cells #[.int .i64 0,.string ⟨#[]⟩,.int .i64 0,.int .i64 0] 42)=x:=⟨_,rfl⟩
      rw [hx4] at c1 c2 c4;have X4:=Hd hx4;have RG:=aAV (li:=(j:Int)) c1 HNM.out HR.out.1 (by have:=HJL.out; omega) (by have:=HJL.out; omega) HR.out.2.1 HID.out;rw [HF.out] at RG;have RG:=Hd RG;have ca4:=CELL.out.1 x4 (chain B1.out c1.from);clear h1 c1 c2 c3 c4 hx4 NC ca HT;go_upto_region 13 with fail
      rw [X4.out];go_wp2_with fail;refine RG.out.mono ?_;rintro e w5 ⟨rfl,h1,_⟩;have OW:=Hd (aAW h1 HID.out);clear h1 RG ca4;go_wp2_with fail;refine OW.out.mono ?_;rintro e w6 ⟨rfl,h1,_⟩;obtain ⟨c1,c2,c3⟩:=h1.box (.cells #[.int .i64 id,.string f,.int .i64 (j:Int),.int .i64 0] 42);obtain ⟨x6,hx6⟩:∃ x,w6.alloc (.cells #[.int .i64 id,.string f,.int .i64 (j:Int),.int .i64 0] 42)=x:=⟨_,rfl⟩
      rw [hx6] at c1 c2;have X6:=Hd hx6;have hgn:jP (dL 0 os) f=none:=by rw [← HF.out]; exact HR.out.2.2
      have LK:=c1.look (f:=f) hgn;obtain ⟨w7,MU,h7⟩:=c1.put hgn HID.out;have T7:=Hd (h7.sub (R' := []) fun k hk=>by cases hk);obtain ⟨⟨y0,y1,y2,y3⟩,_⟩:=cQ c2;have HL2:=Hd (show (os ++ [(⟨f,(j:Int),0⟩:aN)]).length=os.length + 1 by rw [List.length_append]; rfl);clear h1 c1 c2 c3 hx6 OW hgn h7;go_upto_region 24 with fail
      rw [X6.out];go_wp2_with fail;go_roundw
      case rel=>exact ⟨j + 1,_,rfl,by rw [HL2.out,← HID.out]; rfl,HJL.out.1,HJL.out.2.1,by rw [HL2.out]; have:=HJL.out; omega,T7⟩
      case measure=>have:=HJL.out; simp [intOf]; omega
    ·have hli:¬ (j:Int) < 20:=by omega
     go_wp2_with fail
     go_meet
     exact ⟨os,HT⟩
   ·have hjli:¬ (j:Int) < (len:Int):=by omega
    go_wp2_with fail
    go_meet
    exact ⟨os,HT⟩
 case rest =>
  obtain ⟨os,HT⟩:=hcut;clear hm1 CELLS;have NR:=yX HT.out HZ1.out
  rcases NR with ⟨hr,NC⟩ | ⟨i,p,hr,hp,hpn,hnr,hg,NC⟩ | ⟨hr,hnew,hg,NC⟩
  ·have NC:=Hd NC
   clear hr HT;go_wp2_with fail;refine NC.out.mono ?_;rintro e w4 ⟨rfl,h1,_⟩;have FIN:Hid (∀ x,Below w4.heap.size w4 x→Below w.heap.size w x):=Hd fun x hx=>(chain B1.out h1.from).trans (hx.mono ((chain B1.out h1.from).size))
   clear h1 NC;go_wp2_with fail;go_ret;exact ⟨rfl,FIN.out _ (aB _ _)⟩
  ·have NC:=Hd NC
   have HR:=Hd (And.intro hr (And.intro hpn (And.intro hnr hg)));obtain ⟨id,hid⟩:∃ id:Int,(i:Int) + 1=id:=⟨_,rfl⟩
   have HID:=Hd hid;clear hr hp hpn hnr hg HT;go_wp2_with fail;refine NC.out.mono ?_;rintro e w4 ⟨rfl,h1,_⟩;rw [hid];obtain ⟨c1,c2,c3,c4⟩:=h1.box (.cells #[.int .i64 id,.string p.nm,.int .i64 p.li,.int .i64 p.ha] 42);obtain ⟨x4,hx4⟩:∃ x,w4.alloc (.cells #[.int .i64 id,.string p.nm,.int .i64 p.li,.int .i64 p.ha] 42)=x:=⟨_,rfl⟩
   rw [hx4] at c1 c2 c4;have X4:=Hd hx4;obtain ⟨⟨y0,y1,y2,y3⟩,_⟩:=cQ c2;have LK:=c1.look (f:=p.nm) (r:=id) (by rw [HR.out.2.1,HR.out.2.2.2,HID.out]);have FIN:=Hd (chain B1.out c1.from);clear h1 c1 c2 c3 c4 hx4 NC hid;go_upto_region 28 with fail
   rw [X4.out];go_wp2_with fail;go_ret;exact ⟨rfl,FIN.out⟩
  ·have NC:=Hd NC
   clear hr hnew hg HT;go_wp2_with fail;refine NC.out.mono ?_;rintro e w4 ⟨rfl,h1,_⟩;have FIN:Hid (∀ x,Below w4.heap.size w4 x→Below w.heap.size w x):=Hd fun x hx=>(chain B1.out h1.from).trans (hx.mono ((chain B1.out h1.from).size))
   clear h1 NC;go_wp2_with fail;go_ret;exact ⟨rfl,FIN.out _ (aB _ _)⟩
end Go.Proofs.YtblbiihpfjjhhaaGreatDoor
