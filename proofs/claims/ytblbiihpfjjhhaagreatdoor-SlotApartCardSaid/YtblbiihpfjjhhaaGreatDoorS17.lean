/-
 Tx, Tg, Ts, Tf, SpaceMath, Space, Ky, Nm, BitsNat, Mask, Own, Runes, Label, Right, Fold, FoldFacts.
-/
import Derived.Test.YtblbiihpfjjhhaaGreatDoorS16
import Derived.Test.YtblbiihpfjjhhaaGreatDoorS15
import Derived.Test.YtblbiihpfjjhhaaGreatDoorS02
import Derived.Test.YtblbiihpfjjhhaaGreatDoorS12
import Derived.BigQuiet
import Derived.Test.YtblbiihpfjjhhaaGreatDoorS01
import Derived.RangeFuncCalls
import Derived.Lib.OthersKept
import Derived.Laws.Cover4
import Derived.Lib.MapLaws
import Derived.Deep.Light
namespace Go.Proofs.YtblbiihpfjjhhaaGreatDoor
open Go.RowKit
set_option maxRecDepth 20000
set_option maxHeartbeats 12800000
set_option linter.unusedVariables false
set_option linter.unusedSimpArgs false
def txC (s:Nat) (root e:Int) (o:Bool):Obj:=.cells #[.pointer (some ⟨s,0,none⟩),.int .i64 root,.int .i64 e,.bool o] 137
theorem fH {w:World} {t s:Nat} {root e:Int} {o:Bool} (h:w.heap[t]?=some (txC s root e o)):w.cell? ⟨t,0,none⟩=some (.pointer (some ⟨s,0,none⟩))∧w.cell? ⟨t,1,none⟩=some (.int .i64 root)∧w.cell? ⟨t,2,none⟩=some (.int .i64 e)∧w.cell? ⟨t,3,none⟩=some (.bool o)∧∀ i,w.frozen? ⟨t,i,none⟩=false:=by
 unfold txC at h;refine ⟨?_,?_,?_,?_,fun i=>ufb h i⟩ <;> (rw [cob h]; rfl)
theorem fS {w:World} {b i:Nat} (v:Value):Frm (fun k=>k=b) w (w.setCell ⟨b,i,none⟩ v):=(Frm.refl _ w).setCell _ _ (.inl rfl)
theorem TP (w:World) (t s:Nat) (root:Int) (caps:Array Value) (hc:w.heap[t]?=some (txC s root 0 false)) (R:Int→World→Prop)
  (HC:Calls Tryz.prog 141 caps w fun e w' => ∃ c,e=.returned (.int .i64 c)∧R c w'∧∃ root', w'.heap[t]?=some (txC s root' 0 false)) :
  Calls Tryz.prog 123 #[.pointer (some ⟨t,0,none⟩),.func (.func 141) #[] caps] w fun e w' => ∃ c w1,e=.returned (.bool (c == 0))∧R c w1∧w1.setCell ⟨t,2,none⟩ (.int .i64 c)=w' := by
 have H:=Hd HC;obtain ⟨c0,c1,c2,c3,fz⟩:=fH hc;clear hc HC fz;go_enter Tryz.func123,Tryz.ntmps123;go_wp2_with fail;refine H.out.mono ?_;rintro e w1 ⟨c,rfl,hR,root', hc1⟩;have FIN:=Hd hR;obtain ⟨d0,d1,d2,d3,g⟩:=fH hc1;have g2:=g 2;obtain ⟨w2,hw2⟩:∃ w2,w1.setCell ⟨t,2,none⟩ (.int .i64 c)=w2:=⟨_,rfl⟩
 have e2:w2.cell? ⟨t,2,none⟩=some (.int .i64 c):=by
  unfold txC at hc1;have h9:=hss w1 t 2 _ _ (.int .i64 c) hc1;rw [hw2] at h9;rw [cob h9]; rfl
 have HW:=Hd hw2;clear hR hc1 g c0 c1 c2 c3 H;go_upto_region 4 with fail
 try rw [hw2]
 clear hw2 d0 d1 d2 d3 g2;go_wp2_with fail;go_ret;exact ⟨c,w1,rfl,FIN.out,HW.out⟩
theorem TQ (w:World) (t s:Nat) (root:Int) (caps:Array Value) (hc:w.heap[t]?=some (txC s root 0 false)) (R:Int→World→Prop)
  (HC:Calls Tryz.prog 124 caps w fun e w' => ∃ c,e=.returned (.int .i64 c)∧R c w'∧∃ root', w'.heap[t]?=some (txC s root' 0 false)) :
  Calls Tryz.prog 123 #[.pointer (some ⟨t,0,none⟩),.func (.func 124) #[] caps] w fun e w' => ∃ c w1,e=.returned (.bool (c == 0))∧R c w1∧w1.setCell ⟨t,2,none⟩ (.int .i64 c)=w' := by
 have H:=Hd HC;obtain ⟨c0,c1,c2,c3,fz⟩:=fH hc;clear hc HC fz;go_enter Tryz.func123,Tryz.ntmps123;go_wp2_with fail;refine H.out.mono ?_;rintro e w1 ⟨c,rfl,hR,root', hc1⟩;have FIN:=Hd hR;obtain ⟨d0,d1,d2,d3,g⟩:=fH hc1;have g2:=g 2;obtain ⟨w2,hw2⟩:∃ w2,w1.setCell ⟨t,2,none⟩ (.int .i64 c)=w2:=⟨_,rfl⟩
 have e2:w2.cell? ⟨t,2,none⟩=some (.int .i64 c):=by
  unfold txC at hc1;have h9:=hss w1 t 2 _ _ (.int .i64 c) hc1;rw [hw2] at h9;rw [cob h9]; rfl
 have HW:=Hd hw2;clear hR hc1 g c0 c1 c2 c3 H;go_upto_region 4 with fail
 try rw [hw2]
 clear hw2 d0 d1 d2 d3 g2;go_wp2_with fail;go_ret;exact ⟨c,w1,rfl,FIN.out,HW.out⟩
def PutS (bt bk bv t s:Nat) (root key:Int) (val:ByteArray) (w:World):Prop:=w.heap[bt]?=some (.cells #[.pointer (some ⟨t,0,none⟩)] 24)∧w.heap[bk]?=some (.cells #[.int .u64 key] 30)∧w.heap[bv]?=some (.cells #[.string val] 9)∧w.heap[t]?=some (txC s root 0 false)
theorem PutS.kept {bt bk bv t s:Nat} {root key:Int} {val:ByteArray} {w w' : World} {R:List Nat} (h:PutS bt bk bv t s root key val w) (hm:bt∈R∧bk∈R∧bv∈R∧t∈R) (hK:nA R w w'):PutS bt bk bv t s root key val w' :=
 ⟨(hK _ hm.1).trans h.1,(hK _ hm.2.1).trans h.2.1,(hK _ hm.2.2.1).trans h.2.2.1,(hK _ hm.2.2.2).trans h.2.2.2⟩
theorem OS {w0 w:World} {R:List Nat} {t d s n bt bk bv br:Nat} {root key:Int} {val:ByteArray} {E:List Ent} (h:TrR w0 R w d s n root E) (ps:PutS bt bk bv t s root key val w) (hm:bt∈R∧bk∈R∧bv∈R∧t∈R) (ht0:w0.heap.size≤t)
  (H0:Nat) (h9:H0≤8) (hE:E.length < 2 ^ (H0 + 1)) (hn:2 * E.length + 2 * H0 + 5≤n) (hk:0≤key∧key≤18446744073709551615) (hv:val.size≤40) :
  Calls Tryz.prog 141 #[.pointer (some ⟨bt,0,none⟩),.pointer (some ⟨bk,0,none⟩),.pointer (some ⟨bv,0,none⟩),.pointer (some ⟨br,0,none⟩)] w fun e w' => e=.returned (.int .i64 0)∧∃ q,TrR w0 R w' d s n q (bZ key val E)∧w'.heap[t]?=some (txC s q 0 false)∧∀ k∈R,k≠t→w'.heap[k]?=w.heap[k]?:=by
 have PS:=Hd (show PutS bt bk bv t s root key val w.drew from ps);have PT:=Hd (UP (h.below Br.drew) H0 h9 hE hn key hk val hv);have HM:=Hd hm;have HT0:=Hd ht0;clear h ps h9 hE hn hk hv ht0;go_enter Tryz.func141,Tryz.ntmps141;go_upto_region 1 with fail
 refine wp_region_held_drew (S:=fun w' => PutS bt bk bv t s root key val w') (by kernel_rfl) PS.out (fun hS=>?_);refine Hv 0 8 ?va0x1 hS ?ha0x1 ?_
 case ha0x1 =>
  intro w9 s9;have k9:=(aJ s9.1).1;clear s9;go_simp;try (with_reducible rfl)
 simp only [SL];refine Hu 1 9 hS ?_;simp only [SL];refine Hu 2 10 hS ?_;simp only [SL];refine Hv 3 11 ?va3x4 hS ?ha3x4 ?_
 case ha3x4 =>
  intro w9 s9;obtain ⟨k0,k1,_,_,_⟩:=fH s9.2.2.2;clear s9;go_simp;try (with_reducible rfl)
 simp only [SL];refine Hv 4 12 ?va4x5 hS ?ha4x5 ?_
 case ha4x5 =>
  intro w9 s9;have k9:=(aJ s9.1).1;clear s9;go_simp;try (with_reducible rfl)
 simp only [SL];refine Hu 5 13 hS ?_;simp only [SL];refine Hu 6 14 hS ?_;simp only [SL];refine Hv 7 15 ?va7x8 hS ?ha7x8 ?_
 case ha7x8 =>
  intro w9 s9;obtain ⟨k0,k1,_,_,_⟩:=fH s9.2.2.2;clear s9;go_simp;try (with_reducible rfl)
 simp only [SL];refine Hv 8 16 ?va8x9 hS ?ha8x9 ?_
 case ha8x9 =>
  intro w9 s9;have k9:=(aJ s9.2.1).1;clear s9;go_simp;try (with_reducible rfl)
 simp only [SL];refine Hv 9 17 ?va9x10 hS ?ha9x10 ?_
 case ha9x10 =>
  intro w9 s9;have k9:=(aJ s9.2.2.1).1;clear s9;go_simp;try (with_reducible rfl)
 simp only [SL];refine Hs 10 (fun K HK=>?_);go_simp;go_wp2_with fail;refine PT.out.mono ?_;rintro e w6 ⟨q,rfl,hT,hK⟩;refine HK.out _ _ ?_ ?_
 ·exact hS.kept hm hK
 clear HK K;try simp only [Act.put,SL]
 have hS' := hS.kept hm hK;clear hS;have hS:=hS';clear hS';refine Hu 11 7 hS ?_;simp only [SL];refine Hu 12 19 hS ?_;simp only [SL];refine Hu 13 20 hS ?_;simp only [SL];refine Hu 14 5 hS ?_;simp only [SL];refine Hu 15 6 hS ?_;simp only [SL];refine wpAnyH_done (by kernel_rfl) ?_ _;have bx:=(aJ hS.1).1;obtain ⟨d0,d1,d2,d3,g⟩:=fH hS.2.2.2;have g1:=g 1;obtain ⟨w7,hw7⟩:∃ w7,w6.setCell ⟨t,1,none⟩ (.int .i64 q)=w7:=⟨_,rfl⟩
 have FIN:Hid (∃ q,TrR w0 R w7 d s n q (bZ key val E)∧w7.heap[t]?=some (txC s q 0 false)∧∀ k∈R,k≠t→w7.heap[k]?=w.heap[k]?):=Hd (by
  have f:Frm (fun k=>k=t) w6 w7:=by rw [← hw7]; exact fS _
  refine ⟨q,hT.turn HM.out.2.2.2 HT0.out f,?_,fun k hk hne=>(f.block k (hT.lt k hk) hne).trans (hK k hk)⟩;have h1:=hS.2.2.2;unfold txC at h1;rw [← hw7,hss _ _ 1 _ _ _ h1]
  rfl)
 clear hS hT hK g hm;go_upto_region 8 with fail
 try rw [hw7]
 clear hw7 bx d0 d1 d2 d3 g1;go_wp2_with fail;go_ret;exact ⟨rfl,FIN.out⟩
theorem TU {w0 w:World} {R:List Nat} {t d s n:Nat} {root key:Int} {val:ByteArray} {E:List Ent} (h:TrR w0 (t :: R) w d s n root E) (ht:w.heap[t]?=some (txC s root 0 false)) (x4:World)
  (hx:(((w.alloc (.cells #[.pointer (some ⟨t,0,none⟩)] 24)).alloc (.cells #[.int .u64 key] 30)).alloc (.cells #[.string val] 9)).alloc (.cells #[.bool false] 4)=x4) :
  TrR w0 ((w.heap.size + 3) :: (w.heap.size + 2) :: (w.heap.size + 1) :: w.heap.size :: t :: R) x4 d s n root E∧PutS w.heap.size (w.heap.size + 1) (w.heap.size + 2) t s root key val x4∧x4.heap[w.heap.size + 3]?=some (.cells #[.bool false] 4)∧nA (t :: R) w x4∧t < w.heap.size∧(∀ k∈t :: R,k < w.heap.size)∧Below w.heap.size w x4:=by
 obtain ⟨x1,hx1⟩:∃ x1,w.alloc (.cells #[.pointer (some ⟨t,0,none⟩)] 24)=x1:=⟨_,rfl⟩
 obtain ⟨x2,hx2⟩:∃ x2,x1.alloc (.cells #[.int .u64 key] 30)=x2:=⟨_,rfl⟩
 obtain ⟨x3,hx3⟩:∃ x3,x2.alloc (.cells #[.string val] 9)=x3:=⟨_,rfl⟩
 rw [hx1,hx2,hx3] at hx;have z1:x1.heap.size=w.heap.size + 1:=by rw [← hx1]; simp
 have z2:x2.heap.size=w.heap.size + 2:=by rw [← hx2]; simp [z1]
 have z3:x3.heap.size=w.heap.size + 3:=by rw [← hx3]; simp [z2]
 have z4:x4.heap.size=w.heap.size + 4:=by rw [← hx]; simp [z3]
 have b1:Below w.heap.size w x1:=by rw [← hx1]; exact aA _ _
 have b2:Below x1.heap.size x1 x2:=by rw [← hx2]; exact aA _ _
 have b3:Below x2.heap.size x2 x3:=by rw [← hx3]; exact aA _ _
 have b4:Below x3.heap.size x3 x4:=by rw [← hx]; exact aA _ _
 have m1:x1.heap[w.heap.size]?=some (.cells #[.pointer (some ⟨t,0,none⟩)] 24):=by rw [← hx1]; exact han w _
 have m2:x2.heap[w.heap.size + 1]?=some (.cells #[.int .u64 key] 30):=by rw [← hx2,← z1]; exact han x1 _
 have m3:x3.heap[w.heap.size + 2]?=some (.cells #[.string val] 9):=by rw [← hx3,← z2]; exact han x2 _
 have m4:x4.heap[w.heap.size + 3]?=some (.cells #[.bool false] 4):=by rw [← hx,← z3]; exact han x3 _
 have hlt:=h.lt;have ht' := hlt t (by simp);have bw:Below w.heap.size w x4:=((b1.trans (b2.mono (by omega))).trans (b3.mono (by omega))).trans (b4.mono (by omega));refine ⟨(((h.more b1 w.heap.size (Nat.le_refl _) (by omega)).more b2 (w.heap.size + 1) (by omega) (by omega)).more b3 (w.heap.size + 2) (by omega) (by omega)).more b4 (w.heap.size + 3) (by omega) (by omega),⟨?_,?_,?_,?_⟩,m4,fun k hk=>bw.block k (hlt k hk),ht', hlt,bw⟩
 ·exact (b4.block _ (by omega)).trans ((b3.block _ (by omega)).trans ((b2.block _ (by omega)).trans m1))
 ·exact (b4.block _ (by omega)).trans ((b3.block _ (by omega)).trans m2)
 ·exact (b4.block _ (by omega)).trans m3
 ·exact (bw.block t ht').trans ht
theorem SF {w1 w2:World} {t s:Nat} {root:Int} (hc:w1.heap[t]?=some (txC s root 0 false)) (h:w1.setCell ⟨t,2,none⟩ (.int .i64 0)=w2):w2.heap[t]?=some (txC s root 0 false)∧Frm (fun k=>k=t) w1 w2:=by
 have f:Frm (fun k=>k=t) w1 w2:=by rw [← h]; exact fS _
 refine ⟨?_,f⟩;unfold txC at hc ⊢;rw [← h,hss _ _ 2 _ _ _ hc]
 rfl
theorem UN {w0 w:World} {R:List Nat} {t d s n:Nat} {root key:Int} {val:ByteArray} {E:List Ent} (h:TrR w0 (t :: R) w d s n root E) (ht:w.heap[t]?=some (txC s root 0 false)) (ht0:w0.heap.size≤t)
  (H0:Nat) (h9:H0≤8) (hE:E.length < 2 ^ (H0 + 1)) (hn:2 * E.length + 2 * H0 + 5≤n) (hk:0≤key∧key≤18446744073709551615) (hv:val.size≤40) :
  Calls Tryz.prog 91 #[.pointer (some ⟨t,0,none⟩),.int .u64 key,.string val] w fun e w' => e=.returned (.bool true)∧∃ q,TrR w0 (t :: R) w' d s n q (bZ key val E)∧w'.heap[t]?=some (txC s q 0 false)∧∀ k∈R,k≠t→w'.heap[k]?=w.heap[k]?:=by
 obtain ⟨x4,hx4⟩:∃ x4,(((w.alloc (.cells #[.pointer (some ⟨t,0,none⟩)] 24)).alloc (.cells #[.int .u64 key] 30)).alloc (.cells #[.string val] 9)).alloc (.cells #[.bool false] 4)=x4:=⟨_,rfl⟩
 obtain ⟨hT,hP,hB,hK,htl,hlt,bw⟩:=TU (key:=key) (val:=val) h ht x4 hx4
 have DO:=Hd (TP x4 t s root #[.pointer (some ⟨w.heap.size,0,none⟩),.pointer (some ⟨w.heap.size + 1,0,none⟩),.pointer (some ⟨w.heap.size + 2,0,none⟩),.pointer (some ⟨w.heap.size + 3,0,none⟩)] hP.2.2.2
  (fun c w' => c=0∧∃ q,TrR w0 ((w.heap.size + 3) :: (w.heap.size + 2) :: (w.heap.size + 1) :: w.heap.size :: t :: R) w' d s n q (bZ key val E)∧w'.heap[t]?=some (txC s q 0 false)∧∀ k∈((w.heap.size + 3) :: (w.heap.size + 2) :: (w.heap.size + 1) :: w.heap.size :: t :: R),k≠t→w'.heap[k]?=x4.heap[k]?)
  ((OS hT hP (by simp) ht0 H0 h9 hE hn hk hv).mono fun e w' ⟨h1,q,h2,h3,h4⟩=>⟨0,h1,⟨rfl,q,h2,h3,h4⟩,q,h3⟩))
 have HF:=Hd (And.intro hB (And.intro hK (And.intro htl (And.intro hlt ht0))));have bx:=(aJ hP.1).1;have HX:=Hd hx4;clear h ht hT hP hB hK htl hlt h9 hE hn hk hv ht0 bw hx4;go_enter Tryz.func91,Tryz.ntmps91;go_upto_region 2 with fail
 try simp only [Nat.add_assoc,Nat.reduceAdd,World.heap_size_alloc]
 rw [HX.out];go_wp2_with fail;refine DO.out.mono ?_;rintro e w6 ⟨c,w5,rfl,⟨rfl,q,h1,h2,h3⟩,hw6⟩;obtain ⟨g1,g2⟩:=SF h2 hw6;have hbr:w6.heap[w.heap.size + 3]?=some (.cells #[.bool false] 4):=(g2.block _ (h1.lt _ (by simp)) (by have:=HF.out.2.2.1; omega)).trans ((h3 _ (by simp) (by have:=HF.out.2.2.1; omega)).trans HF.out.1);have cbr:=(aJ hbr).1
 have FIN:Hid (∃ q,TrR w0 (t :: R) w6 d s n q (bZ key val E)∧w6.heap[t]?=some (txC s q 0 false)∧∀ k∈R,k≠t→w6.heap[k]?=w.heap[k]?):=Hd (by
  refine ⟨q,(h1.turn (by simp) HF.out.2.2.2.2 g2).sub (fun k hk=>by simp only [List.mem_cons] at hk ⊢; rcases hk with hk | hk <;> simp [hk]),g1,fun k hk hne=>?_⟩;have hm:k∈((w.heap.size + 3) :: (w.heap.size + 2) :: (w.heap.size + 1) :: w.heap.size :: t :: R):=by simp [hk]
  exact (g2.block k (h1.lt k hm) hne).trans ((h3 k hm hne).trans (HF.out.2.1 k (by simp [hk]))))
 clear h1 h2 h3 hw6 g1 g2 hbr bx;go_wp2_with fail;go_ret;exact ⟨rfl,FIN.out⟩
theorem UZ {w:World} {t s:Nat} {root e:Int} {o:Bool} (ht:w.heap[t]?=some (txC s root e o)) :
  Calls Tryz.prog 35 #[.pointer (some ⟨t,0,none⟩)] w fun e' w' => e'=.returned (.int .i64 e)∧w=w' := by
 obtain ⟨c0,c1,c2,c3,_⟩:=fH ht;go_enter Tryz.func35,Tryz.ntmps35;go_wp2_with fail;go_ret;exact ⟨rfl,rfl⟩
def GetS (bt bk t s:Nat) (root key:Int) (w:World):Prop:=w.heap[bt]?=some (.cells #[.pointer (some ⟨t,0,none⟩)] 24)∧w.heap[bk]?=some (.cells #[.int .u64 key] 30)∧w.heap[t]?=some (txC s root 0 false)
theorem GetS.kept {bt bk t s:Nat} {root key:Int} {w w' : World} {R:List Nat} (h:GetS bt bk t s root key w) (hm:bt∈R∧bk∈R∧t∈R) (hK:nA R w w'):GetS bt bk t s root key w' :=
 ⟨(hK _ hm.1).trans h.1,(hK _ hm.2.1).trans h.2.1,(hK _ hm.2.2).trans h.2.2⟩
theorem GetS.set {bt bk t s b i:Nat} {root key:Int} {v:Value} {w:World} (h:GetS bt bk t s root key w) (hn:bt≠b∧bk≠b∧t≠b):GetS bt bk t s root key (w.setCell ⟨b,i,none⟩ v) :=
 ⟨(Below.heap_setCell _ _ _ _ hn.1).trans h.1,(Below.heap_setCell _ _ _ _ hn.2.1).trans h.2.1,(Below.heap_setCell _ _ _ _ hn.2.2).trans h.2.2⟩
theorem QF {w0 w:World} {R:List Nat} {t d s n bt bk bw bi:Nat} {root key:Int} {E:List Ent} (h:TrR w0 R w d s n root E) (ps:GetS bt bk t s root key w) (hm:bt∈R∧bk∈R∧t∈R) (hw:bw∈R∧bi∈R) (hl:w0.heap.size≤bw∧w0.heap.size≤bi) (hn:(bt≠bw∧bk≠bw∧t≠bw)∧(bt≠bi∧bk≠bi∧t≠bi)∧bw≠bi)
  (hv:w.heap[bw]?=some (.cells #[.string ⟨#[]⟩] 9)∧w.heap[bi]?=some (.cells #[.bool false] 4)) (hE:E.length≤600) (hk:0≤key∧key≤18446744073709551615) (gv:ByteArray) (gb:Bool) (hgv:lK key E=gv) (hgb:lL key E=gb) :
  Calls Tryz.prog 124 #[.pointer (some ⟨bt,0,none⟩),.pointer (some ⟨bk,0,none⟩),.pointer (some ⟨bw,0,none⟩),.pointer (some ⟨bi,0,none⟩)] w fun e w' => e=.returned (.int .i64 0)∧TrR w0 R w' d s n root E∧w'.heap[bw]?=some (.cells #[.string gv] 9)∧w'.heap[bi]?=some (.cells #[.bool gb] 4)∧∀ k∈R,k≠bw→k≠bi→w'.heap[k]?=w.heap[k]?:=by
 have PS:=Hd (show GetS bt bk t s root key w.drew from ps);have TD:=Hd (h.below Br.drew);have PT0:=UY (h.below Br.drew) hE key hk;rw [hgv,hgb] at PT0;have PT:=Hd PT0;have HN:=Hd hn;have HL:=Hd hl;have HV:=Hd hv;clear h ps hE hk hn hl hv hgv hgb PT0;go_enter Tryz.func124,Tryz.ntmps124;go_upto_region 1 with fail
 refine wp_region_held_drew (S:=fun w' => GetS bt bk t s root key w') (by kernel_rfl) PS.out (fun hS=>?_);refine Hv 0 6 ?va0x1 hS ?ha0x1 ?_
 case ha0x1 =>
  intro w9 s9;have k9:=(aJ s9.1).1;clear s9;go_simp;try (with_reducible rfl)
 simp only [SL];refine Hu 1 7 hS ?_;simp only [SL];refine Hu 2 8 hS ?_;simp only [SL];refine Hv 3 9 ?va3x4 hS ?ha3x4 ?_
 case ha3x4 =>
  intro w9 s9;obtain ⟨k0,k1,_,_,_⟩:=fH s9.2.2;clear s9;go_simp;try (with_reducible rfl)
 simp only [SL];refine Hv 4 10 ?va4x5 hS ?ha4x5 ?_
 case ha4x5 =>
  intro w9 s9;have k9:=(aJ s9.1).1;clear s9;go_simp;try (with_reducible rfl)
 simp only [SL];refine Hu 5 11 hS ?_;simp only [SL];refine Hu 6 12 hS ?_;simp only [SL];refine Hv 7 13 ?va7x8 hS ?ha7x8 ?_
 case ha7x8 =>
  intro w9 s9;obtain ⟨k0,k1,_,_,_⟩:=fH s9.2.2;clear s9;go_simp;try (with_reducible rfl)
 simp only [SL];refine Hv 8 14 ?va8x9 hS ?ha8x9 ?_
 case ha8x9 =>
  intro w9 s9;have k9:=(aJ s9.2.1).1;clear s9;go_simp;try (with_reducible rfl)
 simp only [SL];refine Hs 9 (fun K HK=>?_);go_simp;go_wp2_with fail;refine PT.out.mono ?_;rintro e w6 ⟨rfl,hb⟩;have hK:nA R w.drew w6:=TD.out.kept hb;have TD2:=Hd (TD.out.below hb);clear hb;refine HK.out _ _ ?_ ?_
 ·exact hS.kept hm hK
 clear HK K;try simp only [Act.put,SL]
 have hS' := hS.kept hm hK;clear hS;have hS:=hS';clear hS';have V0:=(hK bw hw.1).trans HV.out.1;have I0:=(hK bi hw.2).trans HV.out.2;obtain ⟨u0,u1⟩:=aJ V0;refine Hu 10 5 hS ?_;simp only [SL];refine Hu 11 16 hS ?_;simp only [SL];refine Hu 12 17 hS ?_;simp only [SL];refine Hu 13 18 hS ?_;simp only [SL];refine Hs 14 (fun K HK=>?_);go_simp;go_wp2_with fail;refine HK.out _ _ ?_ ?_
 ·exact hS.set HN.out.1
 clear HK K;try simp only [Act.put,SL]
 have hS' := hS.set (i:=0) (v:=.string gv) HN.out.1;clear hS;have hS:=hS';clear hS';obtain ⟨w7,hw7⟩:∃ w7,w6.setCell ⟨bw,0,none⟩ (.string gv)=w7:=⟨_,rfl⟩
 rw [hw7] at hS;rw [hw7];have f7:Frm (fun k=>k=bw) w6 w7:=by rw [← hw7]; exact fS _
 have V1:w7.heap[bw]?=some (.cells #[.string gv] 9):=by rw [← hw7,hss _ _ 0 _ _ _ V0]; rfl
 have I1:=(f7.block bi (TD2.out.lt bi hw.2) (Ne.symm HN.out.2.2)).trans I0;have F7:=Hd f7;have V1' := Hd V1;have HK7:=Hd hK;clear u0 u1 V0 I0 hw7 f7 V1 hK;obtain ⟨u0,u1⟩:=aJ I1;refine Hs 15 (fun K HK=>?_);go_simp;go_wp2_with fail;refine HK.out _ _ ?_ ?_
 ·exact hS.set HN.out.2.1
 clear HK K;try simp only [Act.put,SL]
 have hS' := hS.set (i:=0) (v:=.bool gb) HN.out.2.1;clear hS;have hS:=hS';clear hS';obtain ⟨w8,hw8⟩:∃ w8,w7.setCell ⟨bi,0,none⟩ (.bool gb)=w8:=⟨_,rfl⟩
 rw [hw8] at hS;rw [hw8]
 have FIN:Hid (TrR w0 R w8 d s n root E∧w8.heap[bw]?=some (.cells #[.string gv] 9)∧w8.heap[bi]?=some (.cells #[.bool gb] 4)∧∀ k∈R,k≠bw→k≠bi→w8.heap[k]?=w.heap[k]?):=Hd (by
  have f8:Frm (fun k=>k=bi) w7 w8:=by rw [← hw8]; exact fS _
  have h7:=TD2.out.turn hw.1 HL.out.1 F7.out;refine ⟨h7.turn hw.2 HL.out.2 f8,(f8.block bw (h7.lt bw hw.1) HN.out.2.2).trans V1'.out,?_,fun k hk h1 h2=>(f8.block k (h7.lt k hk) h2).trans ((F7.out.block k (TD2.out.lt k hk) h1).trans (HK7.out k hk))⟩;rw [← hw8,hss _ _ 0 _ _ _ I1]
  rfl)
 clear u0 u1 I1 hw8;refine Hu 16 4 hS ?_;simp only [SL];refine wpAnyH_done (by kernel_rfl) ?_ _;clear hS;go_wp2_with fail;go_ret;exact ⟨rfl,FIN.out⟩
theorem TT {w0 w:World} {R:List Nat} {t d s n:Nat} {root:Int} {E:List Ent} (h:TrR w0 (t :: R) w d s n root E) (o1 o2 o3 o4:Obj) (x4:World) (hx:(((w.alloc o1).alloc o2).alloc o3).alloc o4=x4) :
  TrR w0 ((w.heap.size + 3) :: (w.heap.size + 2) :: (w.heap.size + 1) :: w.heap.size :: t :: R) x4 d s n root E∧x4.heap[w.heap.size]?=some o1∧x4.heap[w.heap.size + 1]?=some o2∧x4.heap[w.heap.size + 2]?=some o3∧x4.heap[w.heap.size + 3]?=some o4∧t < w.heap.size∧(∀ k∈t :: R,k < w.heap.size)∧Below w.heap.size w x4:=by
 obtain ⟨x1,hx1⟩:∃ x1,w.alloc o1=x1:=⟨_,rfl⟩
 obtain ⟨x2,hx2⟩:∃ x2,x1.alloc o2=x2:=⟨_,rfl⟩
 obtain ⟨x3,hx3⟩:∃ x3,x2.alloc o3=x3:=⟨_,rfl⟩
 rw [hx1,hx2,hx3] at hx;have z1:x1.heap.size=w.heap.size + 1:=by rw [← hx1]; simp
 have z2:x2.heap.size=w.heap.size + 2:=by rw [← hx2]; simp [z1]
 have z3:x3.heap.size=w.heap.size + 3:=by rw [← hx3]; simp [z2]
 have z4:x4.heap.size=w.heap.size + 4:=by rw [← hx]; simp [z3]
 have b1:Below w.heap.size w x1:=by rw [← hx1]; exact aA _ _
 have b2:Below x1.heap.size x1 x2:=by rw [← hx2]; exact aA _ _
 have b3:Below x2.heap.size x2 x3:=by rw [← hx3]; exact aA _ _
 have b4:Below x3.heap.size x3 x4:=by rw [← hx]; exact aA _ _
 have m1:x1.heap[w.heap.size]?=some o1:=by rw [← hx1]; exact han w _
 have m2:x2.heap[w.heap.size + 1]?=some o2:=by rw [← hx2,← z1]; exact han x1 _
 have m3:x3.heap[w.heap.size + 2]?=some o3:=by rw [← hx3,← z2]; exact han x2 _
 have m4:x4.heap[w.heap.size + 3]?=some o4:=by rw [← hx,← z3]; exact han x3 _
 have hlt:=h.lt;have bw:Below w.heap.size w x4:=((b1.trans (b2.mono (by omega))).trans (b3.mono (by omega))).trans (b4.mono (by omega))
 exact ⟨(((h.more b1 w.heap.size (Nat.le_refl _) (by omega)).more b2 (w.heap.size + 1) (by omega) (by omega)).more b3 (w.heap.size + 2) (by omega) (by omega)).more b4 (w.heap.size + 3) (by omega) (by omega),
  (b4.block _ (by omega)).trans ((b3.block _ (by omega)).trans ((b2.block _ (by omega)).trans m1)),(b4.block _ (by omega)).trans ((b3.block _ (by omega)).trans m2),(b4.block _ (by omega)).trans m3,m4,hlt t (by simp),hlt,bw⟩
theorem UW {w0 w:World} {R:List Nat} {t d s n:Nat} {root key:Int} {E:List Ent} (h:TrR w0 (t :: R) w d s n root E) (ht:w.heap[t]?=some (txC s root 0 false)) (ht0:w0.heap.size≤t) (hE:E.length≤600) (hk:0≤key∧key≤18446744073709551615) (gv:ByteArray) (gb:Bool) (hgv:lK key E=gv) (hgb:lL key E=gb) :
  Calls Tryz.prog 59 #[.pointer (some ⟨t,0,none⟩),.int .u64 key] w fun e w' => e=.returned (.tuple #[.string gv,.bool gb])∧TrR w0 (t :: R) w' d s n root E∧w'.heap[t]?=some (txC s root 0 false)∧∀ k∈R,k≠t→w'.heap[k]?=w.heap[k]?:=by
 obtain ⟨x4,hx4⟩:∃ x4,(((w.alloc (.cells #[.pointer (some ⟨t,0,none⟩)] 24)).alloc (.cells #[.int .u64 key] 30)).alloc (.cells #[.string ⟨#[]⟩] 9)).alloc (.cells #[.bool false] 4)=x4:=⟨_,rfl⟩
 obtain ⟨hT,m1,m2,m3,m4,htl,hlt,bw⟩:=TT h _ _ _ _ x4 hx4;have ht4:=(bw.block t htl).trans ht;have hs0:=h.size.size
 have DO:=Hd (TQ x4 t s root #[.pointer (some ⟨w.heap.size,0,none⟩),.pointer (some ⟨w.heap.size + 1,0,none⟩),.pointer (some ⟨w.heap.size + 2,0,none⟩),.pointer (some ⟨w.heap.size + 3,0,none⟩)] ht4
  (fun c w' => c=0∧TrR w0 ((w.heap.size + 3) :: (w.heap.size + 2) :: (w.heap.size + 1) :: w.heap.size :: t :: R) w' d s n root E∧w'.heap[w.heap.size + 2]?=some (.cells #[.string gv] 9)∧w'.heap[w.heap.size + 3]?=some (.cells #[.bool gb] 4)∧∀ k∈((w.heap.size + 3) :: (w.heap.size + 2) :: (w.heap.size + 1) :: w.heap.size :: t :: R),k≠w.heap.size + 2→k≠w.heap.size + 3→w'.heap[k]?=x4.heap[k]?)
  ((QF hT ⟨m1,m2,ht4⟩ (by simp) (by simp) ⟨by omega,by omega⟩ ⟨⟨by omega,by omega,by omega⟩,⟨by omega,by omega,by omega⟩,by omega⟩ ⟨m3,m4⟩ hE hk gv gb hgv hgb).mono fun e w' ⟨h1,h2,h3,h4,h5⟩=>⟨0,h1,⟨rfl,h2,h3,h4,h5⟩,root,(h5 t (by simp) (by omega) (by omega)).trans ht4⟩))
 have HF:=Hd (And.intro ht4 (And.intro bw (And.intro htl (And.intro hlt ht0))));have bx:=(aJ m1).1;have HX:=Hd hx4;clear h ht hT m1 m2 m3 m4 htl hlt ht0 bw hx4 hE hk hgv hgb ht4 hs0;go_enter Tryz.func59,Tryz.ntmps59;go_upto_region 3 with fail
 try simp only [Nat.add_assoc,Nat.reduceAdd,World.heap_size_alloc]
 rw [HX.out];go_wp2_with fail;refine DO.out.mono ?_;rintro e w6 ⟨c,w5,rfl,⟨rfl,h1,h2,h3,h4⟩,hw6⟩;have htl:=HF.out.2.2.1;obtain ⟨g1,g2⟩:=SF ((h4 t (by simp) (by omega) (by omega)).trans HF.out.1) hw6;have cv:=(aJ ((g2.block _ (h1.lt (w.heap.size + 2) (by simp)) (by omega)).trans h2)).1;have ci:=(aJ ((g2.block _ (h1.lt (w.heap.size + 3) (by simp)) (by omega)).trans h3)).1
 have FIN:Hid (TrR w0 (t :: R) w6 d s n root E∧w6.heap[t]?=some (txC s root 0 false)∧∀ k∈R,k≠t→w6.heap[k]?=w.heap[k]?):=Hd (by
  refine ⟨(h1.turn (by simp) HF.out.2.2.2.2 g2).sub (fun k hk=>by simp only [List.mem_cons] at hk ⊢; rcases hk with hk | hk <;> simp [hk]),g1,fun k hk hne=>?_⟩;have hm:k∈((w.heap.size + 3) :: (w.heap.size + 2) :: (w.heap.size + 1) :: w.heap.size :: t :: R):=by simp [hk]
  have hkl:=HF.out.2.2.2.1 k (by simp [hk]);exact (g2.block k (h1.lt k hm) hne).trans ((h4 k hm (by omega) (by omega)).trans (HF.out.2.1.block k hkl)))
 clear h1 h2 h3 h4 hw6 g1 g2 bx htl;go_wp2_with fail
 go_quiet (fail)
 have F2:Hid (TrR w0 (t :: R) (w6.drewN nq) d s n root E∧(w6.drewN nq).heap[t]?=some (txC s root 0 false)∧∀ k∈R,k≠t→(w6.drewN nq).heap[k]?=w.heap[k]?):=Hd (by
  have b:=Below.refl w6.heap.size w6;exact ⟨FIN.out.1.below ⟨b.os,b.tape,b.output,b.size,b.block⟩,FIN.out.2.1,FIN.out.2.2⟩)
 clear FIN;go_wp2_with fail;go_ret2;exact ⟨rfl,F2.out⟩
theorem QP {w0 w:World} {d s n:Nat} {dk:DkS} (h:DSL w0 w d s dk (ShS.new dE)) (G:fW dk (ShS.new dE)) (hT:TreeI dk (ShS.new dE) 0 []) (hl:dk.S.length=n) :
  Calls Tryz.prog 46 #[.pointer (some ⟨s,0,none⟩)] w fun e w' => ∃ t,e=.returned (.pointer (some ⟨t,0,none⟩))∧TrR w0 [t] w' d s n 0 []∧w'.heap[t]?=some (txC s 0 0 false)∧w0.heap.size≤t:=by
 have RB:=Hd (yC h);have RT:=Hd fun wq (hq:DSL w0 wq d s dk (ShS.new dE))=>SJ hq
 have HG:=Hd (And.intro G (And.intro hT hl));clear h G hT hl;go_enter Tryz.func46,Tryz.ntmps46;go_wp2_with fail;refine RB.out.mono ?_;rintro e w1 ⟨rfl,hs⟩;have HS1:Hid (DSL w0 w1 d s dk (ShS.new dE)):=Hd hs;clear hs RB;go_wp2_with fail;refine (RT.out _ HS1.out).mono ?_;rintro e w2 ⟨rfl,rfl⟩;rw [show (ShS.new dE).h.root=0 from rfl]
 have FIN:Hid (TrR w0 [w1.heap.size] (w1.alloc (txC s 0 0 false)) d s n 0 []∧(w1.alloc (txC s 0 0 false)).heap[w1.heap.size]?=some (txC s 0 0 false)∧w0.heap.size≤w1.heap.size):=Hd (by
  obtain ⟨FD,FS,h1,h2,h3,h4⟩:=HS1.out;have hq:TrR w0 [] w1 d s n 0 []:=⟨h2,fun k=>FD k∨FS k,⟨dk,_,⟨FD,FS,h1,fun _=>Iff.rfl⟩,HG.out.1,HG.out.2.1,HG.out.2.2,rfl⟩,fun k hk=>hk.elim (h3 k) (h4 k),fun k hk=>by cases hk⟩
  exact ⟨hq.more (aA _ _) _ (Nat.le_refl _) (by simp),han _ _,h2.size⟩)
 unfold txC at FIN;clear HS1 RT HG;go_wp2_with fail;go_ret;exact ⟨_,rfl,FIN.out⟩
def TxS (w0:World) (R:List Nat) (w:World) (t d s n:Nat) (E:List Ent):Prop:=(∃ root,TrR w0 (t :: R) w d s n root E∧w.heap[t]?=some (txC s root 0 false))∧w0.heap.size≤t
def KeptT (R:List Nat) (t:Nat) (w w' : World):Prop:=∀ k∈R,k≠t→w'.heap[k]?=w.heap[k]?
theorem KeptT.trans {R:List Nat} {t:Nat} {a b c:World} (h:KeptT R t a b) (k:KeptT R t b c):KeptT R t a c:=fun i hi hn=>(k i hi hn).trans (h i hi hn)
theorem KeptT.refl (R:List Nat) (t:Nat) (w:World):KeptT R t w w:=fun _ _ _=>rfl
theorem KeptT.sub {R R' : List Nat} {t:Nat} {a b:World} (h:KeptT R t a b) (hs:∀ k∈R', k∈R):KeptT R' t a b:=fun i hi hn=>h i (hs i hi) hn
section
variable {w0 w w' : World} {R R' : List Nat} {t d s n:Nat} {E:List Ent}
theorem TxS.lt (h:TxS w0 R w t d s n E):(∀ k∈R,k < w.heap.size)∧t < w.heap.size:=by
 obtain ⟨⟨q,h1,h2⟩,_⟩:=h;exact ⟨fun k hk=>h1.lt k (List.mem_cons_of_mem _ hk),h1.lt t (List.mem_cons_self ..)⟩
theorem TxS.from (h:TxS w0 R w t d s n E):Below w0.heap.size w0 w:=by
 obtain ⟨⟨q,h1,h2⟩,_⟩:=h;exact h1.size
theorem TxS.below (h:TxS w0 R w t d s n E) (hb:Below w.heap.size w w'):TxS w0 R w' t d s n E:=by
 have hl:=h.lt.2;obtain ⟨⟨q,h1,h2⟩,h3⟩:=h;exact ⟨⟨q,h1.below hb,(hb.block t hl).trans h2⟩,h3⟩
theorem TxS.kept (h:TxS w0 R w t d s n E) (hb:Below w.heap.size w w'):KeptT R t w w' := fun k hk _=>hb.block k (h.lt.1 k hk)
theorem TxS.sub (h:TxS w0 R w t d s n E) (hs:∀ k∈R', k∈R):TxS w0 R' w t d s n E:=by
 obtain ⟨⟨q,h1,h2⟩,h3⟩:=h;exact ⟨⟨q,h1.sub (fun k hk=>by simp only [List.mem_cons] at hk ⊢; exact hk.imp id (hs k)),h2⟩,h3⟩
theorem TxS.more (h:TxS w0 R w t d s n E) (hb:Below w.heap.size w w') (k:Nat) (h1:w.heap.size≤k) (h2:k < w'.heap.size):TxS w0 (k :: R) w' t d s n E:=by
 have hl:=h.lt.2;obtain ⟨⟨q,g1,g2⟩,g3⟩:=h;exact ⟨⟨q,(g1.more hb k h1 h2).sub (fun i hi=>by simp only [List.mem_cons] at hi ⊢; rcases hi with hi | hi | hi <;> simp [hi]),(hb.block t hl).trans g2⟩,g3⟩
theorem TxS.turn (h:TxS w0 R w t d s n E) {k:Nat} (hk:k∈R) (hn:k≠t) (h0:w0.heap.size≤k) (hf:Frm (fun x=>x=k) w w'):TxS w0 R w' t d s n E:=by
 have hl:=h.lt.2;obtain ⟨⟨q,h1,h2⟩,h3⟩:=h;exact ⟨⟨q,h1.turn (List.mem_cons_of_mem _ hk) h0 hf,(hf.block t hl (fun e=>hn e.symm)).trans h2⟩,h3⟩
theorem TxS.box (h:TxS w0 R w t d s n E) (o:Obj):TxS w0 (w.heap.size :: R) (w.alloc o) t d s n E∧KeptT R t w (w.alloc o)∧(w.alloc o).heap[w.heap.size]?=some o∧w.heap.size≠t∧(w.alloc o).heap.size=w.heap.size + 1∧w0.heap.size≤w.heap.size∧∀ k∈R,k≠w.heap.size:=by
 have hb:=aA w o;have hl:=h.lt;refine ⟨h.more hb _ (Nat.le_refl _) (by simp),h.kept hb,han w o,by omega,by simp,h.from.size,fun k hk=>?_⟩;have:=hl.1 k hk;omega
theorem RN (h:TxS w0 R w t d s n E) :
  Calls Tryz.prog 35 #[.pointer (some ⟨t,0,none⟩)] w fun e' w' => e'=.returned (.int .i64 0)∧w=w' := by
 obtain ⟨⟨q,h1,h2⟩,h3⟩:=h;exact UZ h2
theorem UO {key:Int} {val:ByteArray} (h:TxS w0 R w t d s 640 E) (hE:E.length≤300) (hk:0≤key∧key≤18446744073709551615) (hv:val.size≤40) :
  Calls Tryz.prog 91 #[.pointer (some ⟨t,0,none⟩),.int .u64 key,.string val] w fun e w' => e=.returned (.bool true)∧TxS w0 R w' t d s 640 (bZ key val E)∧KeptT R t w w' := by
 obtain ⟨⟨q,h1,h2⟩,h3⟩:=h;refine (UN h1 h2 h3 8 (by decide) (by omega) (by omega) hk hv).mono ?_;rintro e w' ⟨rfl,q', g1,g2,g3⟩;exact ⟨rfl,⟨⟨q', g1,g2⟩,h3⟩,g3⟩
theorem UX {key:Int} (h:TxS w0 R w t d s n E) (hE:E.length≤600) (hk:0≤key∧key≤18446744073709551615) (gv:ByteArray) (gb:Bool) (hgv:lK key E=gv) (hgb:lL key E=gb) :
  Calls Tryz.prog 59 #[.pointer (some ⟨t,0,none⟩),.int .u64 key] w fun e w' => e=.returned (.tuple #[.string gv,.bool gb])∧TxS w0 R w' t d s n E∧KeptT R t w w' := by
 obtain ⟨⟨q,h1,h2⟩,h3⟩:=h;refine (UW h1 h2 h3 hE hk gv gb hgv hgb).mono ?_;rintro e w' ⟨rfl,g1,g2,g3⟩;exact ⟨rfl,⟨⟨q,g1,g2⟩,h3⟩,g3⟩
end
theorem vS (a:Addr) (w:World):(binOp .eql 24 (.pointer (some a)) (.pointer none)).run Tryz.prog w=.ok (.bool false) w:=by kernel_rfl
def TrRF (F:Nat→Prop) (w0:World) (R:List Nat) (w:World) (d s n:Nat) (root:Int) (E:List Ent):Prop :=
 Below w0.heap.size w0 w∧TrF w d s n root E F∧(∀ k,F k→w0.heap.size≤k)∧∀ k∈R,k < w.heap.size∧¬ F k
section
variable {F:Nat→Prop} {w0 w w' : World} {R R' : List Nat} {d s n:Nat} {root:Int} {E:List Ent}
theorem TrRF.size (h:TrRF F w0 R w d s n root E):Below w0.heap.size w0 w:=h.1
theorem TrRF.lt (h:TrRF F w0 R w d s n root E) (k:Nat) (hk:k∈R):k < w.heap.size:=(h.2.2.2 k hk).1
theorem TrRF.below (h:TrRF F w0 R w d s n root E) (hb:Below w.heap.size w w'):TrRF F w0 R w' d s n root E:=by
 obtain ⟨h1,h2,h3,h4⟩:=h;exact ⟨h1.trans (hb.mono h1.size),h2.frm (G:=fun _=>False) (Frm.of_below hb) (fun _ _ h=>h),h3,fun k hk=>⟨Nat.lt_of_lt_of_le (h4 k hk).1 hb.size,(h4 k hk).2⟩⟩
theorem TrRF.sub (h:TrRF F w0 R w d s n root E) (hs:∀ k∈R', k∈R):TrRF F w0 R' w d s n root E:=⟨h.1,h.2.1,h.2.2.1,fun k hk=>h.2.2.2 k (hs k hk)⟩
theorem TrRF.turn (h:TrRF F w0 R w d s n root E) {k:Nat} (hk:k∈R) (h0:w0.heap.size≤k) (hf:Frm (fun x=>x=k) w w'):TrRF F w0 R w' d s n root E:=by
 obtain ⟨h1,h2,h3,h4⟩:=h;exact ⟨h1.trans (hf.below (fun i hi=>by subst hi; exact h0) h1.size),h2.frm hf (fun i hi e=>(h4 k hk).2 (e ▸ hi)),h3,fun i hi=>⟨Nat.lt_of_lt_of_le (h4 i hi).1 hf.size,(h4 i hi).2⟩⟩
theorem TrRF.more (h:TrRF F w0 R w d s n root E) (hb:Below w.heap.size w w') (k:Nat) (h1:w.heap.size≤k) (h2:k < w'.heap.size):TrRF F w0 (k :: R) w' d s n root E:=by
 obtain ⟨a1,a2,a3,a4⟩:=h.below hb;refine ⟨a1,a2,a3,fun i hi=>?_⟩
 rcases List.mem_cons.1 hi with rfl | hi
 ·exact ⟨h2,fun hx=>by have:=h.2.1.lt _ hx; omega⟩
 ·exact a4 i hi
end
theorem OF {F:Nat→Prop} {w0:World} {R:List Nat} {w:World} {d s n:Nat} {root:Int} {E:List Ent} (h:TrRF F w0 R w d s n root E) (hE:E.length≤600) (key most:Int) :
  Calls Tryz.prog 172 #[.pointer (some ⟨s,0,none⟩),.int .i64 root,.int .u64 key,.int .i64 most] w fun e w' => ∃ v,e=.returned (.tuple #[v,.int .i64 0])∧RowE w' v ((aQ key E).take most.toNat)∧TrRF F w0 (v.ownBlock.toList ++ R) w' d s n root E∧nA R w w'∧∀ k,v.ownBlock=some k→w.heap.size≤k:=by
 obtain ⟨hb,⟨dk,st,h1,G,ht,hl,hh⟩,hF,hR⟩:=h;refine (OD w d s dk st F h1 G root E ht hE key most).mono ?_;rintro e w' ⟨v,rfl,ho,hp,hf⟩;have hlo:=ho.lt;have hlt:=h1.lt;refine ⟨v,rfl,⟨ho.1,ho.2.imp id fun ⟨g,cap,cur,hv,_,r⟩=>⟨g,cap,cur,hv,Nat.zero_le _,r⟩⟩,⟨hb.trans (hf.below hF hb.size),⟨dk,st,hp,G,ht,hl,hh⟩,hF,fun k hk=>?_⟩,fun k hk=>hf.block k (hR k hk).1 (hR k hk).2,fun k hk=>(hlo k hk).1⟩
 rcases List.mem_append.1 hk with hk | hk
 ·have hk' : v.ownBlock=some k:=by simpa using hk
  exact ⟨(hlo k hk').2,fun hx=>by have:=hlt k hx; have:=(hlo k hk').1; omega⟩
 ·exact ⟨Nat.lt_of_lt_of_le (hR k hk).1 hf.size,(hR k hk).2⟩
theorem QJ (w:World) (t s:Nat) (root:Int) (caps:Array Value) (hc:w.heap[t]?=some (txC s root 0 false)) (R:Int→World→Prop)
  (HC:Calls Tryz.prog 171 caps w fun e w' => ∃ c,e=.returned (.int .i64 c)∧R c w'∧∃ root', w'.heap[t]?=some (txC s root' 0 false)) :
  Calls Tryz.prog 123 #[.pointer (some ⟨t,0,none⟩),.func (.func 171) #[] caps] w fun e w' => ∃ c w1,e=.returned (.bool (c == 0))∧R c w1∧w1.setCell ⟨t,2,none⟩ (.int .i64 c)=w' := by
 have H:=Hd HC;obtain ⟨c0,c1,c2,c3,fz⟩:=fH hc;clear hc HC fz;go_enter Tryz.func123,Tryz.ntmps123;go_wp2_with fail;refine H.out.mono ?_;rintro e w1 ⟨c,rfl,hR,root', hc1⟩;have FIN:=Hd hR;obtain ⟨d0,d1,d2,d3,g⟩:=fH hc1;have g2:=g 2;obtain ⟨w2,hw2⟩:∃ w2,w1.setCell ⟨t,2,none⟩ (.int .i64 c)=w2:=⟨_,rfl⟩
 have e2:w2.cell? ⟨t,2,none⟩=some (.int .i64 c):=by
  unfold txC at hc1;have h9:=hss w1 t 2 _ _ (.int .i64 c) hc1;rw [hw2] at h9;rw [cob h9]; rfl
 have HW:=Hd hw2;clear hR hc1 g c0 c1 c2 c3 H;go_upto_region 4 with fail
 try rw [hw2]
 clear hw2 d0 d1 d2 d3 g2;go_wp2_with fail;go_ret;exact ⟨c,w1,rfl,FIN.out,HW.out⟩
def ScnS (bt bk bm t s:Nat) (root key most:Int) (w:World):Prop:=w.heap[bt]?=some (.cells #[.pointer (some ⟨t,0,none⟩)] 24)∧w.heap[bk]?=some (.cells #[.int .u64 key] 30)∧w.heap[t]?=some (txC s root 0 false)∧w.heap[bm]?=some (.cells #[.int .i64 most] 3)
theorem ScnS.kept {bt bk bm t s:Nat} {root key most:Int} {w w' : World} {R:List Nat} (h:ScnS bt bk bm t s root key most w) (hm:bt∈R∧bk∈R∧t∈R∧bm∈R) (hK:nA R w w'):ScnS bt bk bm t s root key most w' :=
 ⟨(hK _ hm.1).trans h.1,(hK _ hm.2.1).trans h.2.1,(hK _ hm.2.2.1).trans h.2.2.1,(hK _ hm.2.2.2).trans h.2.2.2⟩
theorem ScnS.set {bt bk bm t s b i:Nat} {root key most:Int} {v:Value} {w:World} (h:ScnS bt bk bm t s root key most w) (hn:bt≠b∧bk≠b∧t≠b∧bm≠b):ScnS bt bk bm t s root key most (w.setCell ⟨b,i,none⟩ v) :=
 ⟨(Below.heap_setCell _ _ _ _ hn.1).trans h.1,(Below.heap_setCell _ _ _ _ hn.2.1).trans h.2.1,(Below.heap_setCell _ _ _ _ hn.2.2.1).trans h.2.2.1,(Below.heap_setCell _ _ _ _ hn.2.2.2).trans h.2.2.2⟩
theorem QN {F:Nat→Prop} {w0 w:World} {R:List Nat} {t d s n:Nat} {root:Int} {E:List Ent} (h:TrRF F w0 (t :: R) w d s n root E) (o1 o2 o3 o4:Obj) (x4:World) (hx:(((w.alloc o1).alloc o2).alloc o3).alloc o4=x4) :
  TrRF F w0 ((w.heap.size + 3) :: (w.heap.size + 2) :: (w.heap.size + 1) :: w.heap.size :: t :: R) x4 d s n root E∧x4.heap[w.heap.size]?=some o1∧x4.heap[w.heap.size + 1]?=some o2∧x4.heap[w.heap.size + 2]?=some o3∧x4.heap[w.heap.size + 3]?=some o4∧t < w.heap.size∧(∀ k∈t :: R,k < w.heap.size)∧Below w.heap.size w x4:=by
 obtain ⟨x1,hx1⟩:∃ x1,w.alloc o1=x1:=⟨_,rfl⟩
 obtain ⟨x2,hx2⟩:∃ x2,x1.alloc o2=x2:=⟨_,rfl⟩
 obtain ⟨x3,hx3⟩:∃ x3,x2.alloc o3=x3:=⟨_,rfl⟩
 rw [hx1,hx2,hx3] at hx;have z1:x1.heap.size=w.heap.size + 1:=by rw [← hx1]; simp
 have z2:x2.heap.size=w.heap.size + 2:=by rw [← hx2]; simp [z1]
 have z3:x3.heap.size=w.heap.size + 3:=by rw [← hx3]; simp [z2]
 have z4:x4.heap.size=w.heap.size + 4:=by rw [← hx]; simp [z3]
 have b1:Below w.heap.size w x1:=by rw [← hx1]; exact aA _ _
 have b2:Below x1.heap.size x1 x2:=by rw [← hx2]; exact aA _ _
 have b3:Below x2.heap.size x2 x3:=by rw [← hx3]; exact aA _ _
 have b4:Below x3.heap.size x3 x4:=by rw [← hx]; exact aA _ _
 have m1:x1.heap[w.heap.size]?=some o1:=by rw [← hx1]; exact han w _
 have m2:x2.heap[w.heap.size + 1]?=some o2:=by rw [← hx2,← z1]; exact han x1 _
 have m3:x3.heap[w.heap.size + 2]?=some o3:=by rw [← hx3,← z2]; exact han x2 _
 have m4:x4.heap[w.heap.size + 3]?=some o4:=by rw [← hx,← z3]; exact han x3 _
 have hlt:=h.lt;have bw:Below w.heap.size w x4:=((b1.trans (b2.mono (by omega))).trans (b3.mono (by omega))).trans (b4.mono (by omega))
 exact ⟨(((h.more b1 w.heap.size (Nat.le_refl _) (by omega)).more b2 (w.heap.size + 1) (by omega) (by omega)).more b3 (w.heap.size + 2) (by omega) (by omega)).more b4 (w.heap.size + 3) (by omega) (by omega),
  (b4.block _ (by omega)).trans ((b3.block _ (by omega)).trans ((b2.block _ (by omega)).trans m1)),(b4.block _ (by omega)).trans ((b3.block _ (by omega)).trans m2),(b4.block _ (by omega)).trans m3,m4,hlt t (by simp),hlt,bw⟩
theorem OG {F:Nat→Prop} {w0 w:World} {R:List Nat} {t d s n bt bk bm bw:Nat} {root key most:Int} {E:List Ent} (h:TrRF F w0 R w d s n root E) (LS:List Ent) (hLS:(aQ key E).take most.toNat=LS) (ps:ScnS bt bk bm t s root key most w) (hm:bt∈R∧bk∈R∧t∈R∧bm∈R) (hw:w.heap[bw]?=some (.cells #[.slice none 0 0] 186)∧bw∈R∧w0.heap.size≤bw∧bw < w.heap.size) (hn:bt≠bw∧bk≠bw∧t≠bw∧bm≠bw) (hE:E.length≤600) :
  Calls Tryz.prog 171 #[.pointer (some ⟨bt,0,none⟩),.pointer (some ⟨bk,0,none⟩),.pointer (some ⟨bm,0,none⟩),.pointer (some ⟨bw,0,none⟩)] w fun e w' => e=.returned (.int .i64 0)∧∃ v,TrRF F w0 (v.ownBlock.toList ++ R) w' d s n root E∧w'.heap[bw]?=some (.cells #[v] 186)∧RowE w' v LS∧(∀ k∈R,k≠bw→w'.heap[k]?=w.heap[k]?)∧∀ k,v.ownBlock=some k→w.heap.size≤k:=by
 have PS:=Hd (show ScnS bt bk bm t s root key most w.drew from ps);have PT0:=OF (h.below Br.drew) hE key most;rw [hLS] at PT0;have PT:=Hd PT0;have HB:=Hd hw;have HN:=Hd hn;clear h ps hE hn hw hLS PT0;go_enter Tryz.func171,Tryz.ntmps171;go_upto_region 1 with fail
 refine wp_region_held_drew (S:=fun w' => ScnS bt bk bm t s root key most w') (by kernel_rfl) PS.out (fun hS=>?_);refine Hv 0 6 ?vb0x1 hS ?hb0x1 ?_
 case hb0x1 =>
  intro w9 s9;have k9:=(aJ s9.1).1;clear s9;go_simp;try (with_reducible rfl)
 simp only [SL];refine Hu 1 7 hS ?_;simp only [SL];refine Hu 2 8 hS ?_;simp only [SL];refine Hv 3 9 ?vb3x4 hS ?hb3x4 ?_
 case hb3x4 =>
  intro w9 s9;obtain ⟨k0,k1,_,_,_⟩:=fH s9.2.2.1;clear s9;go_simp;try (with_reducible rfl)
 simp only [SL];refine Hv 4 10 ?vb4x5 hS ?hb4x5 ?_
 case hb4x5 =>
  intro w9 s9;have k9:=(aJ s9.1).1;clear s9;go_simp;try (with_reducible rfl)
 simp only [SL];refine Hu 5 11 hS ?_;simp only [SL];refine Hu 6 12 hS ?_;simp only [SL];refine Hv 7 13 ?vb7x8 hS ?hb7x8 ?_
 case hb7x8 =>
  intro w9 s9;obtain ⟨k0,k1,_,_,_⟩:=fH s9.2.2.1;clear s9;go_simp;try (with_reducible rfl)
 simp only [SL];refine Hv 8 14 ?vb8x9 hS ?hb8x9 ?_
 case hb8x9 =>
  intro w9 s9;have k9:=(aJ s9.2.1).1;clear s9;go_simp;try (with_reducible rfl)
 simp only [SL];refine Hv 9 15 ?vb9x10 hS ?hb9x10 ?_
 case hb9x10 =>
  intro w9 s9;have k9:=(aJ s9.2.2.2).1;clear s9;go_simp;try (with_reducible rfl)
 simp only [SL];refine Hs 10 (fun K HK=>?_);go_simp;go_wp2_with fail;refine PT.out.mono ?_;rintro e w6 ⟨v0,rfl,hrv,hT,hK,hnv⟩;obtain ⟨va,vc,rfl⟩:=hrv.shape;refine HK.out _ _ ?_ ?_
 ·exact hS.kept hm hK
 clear HK K;try simp only [Act.put,SL]
 have hS' := hS.kept hm hK;clear hS;have hS:=hS';clear hS';have V0:=(hK bw HB.out.2.1).trans HB.out.1;obtain ⟨u0,u1⟩:=aJ V0;refine Hu 11 5 hS ?_;simp only [SL];refine Hu 12 17 hS ?_;simp only [SL];refine Hu 13 18 hS ?_;simp only [SL];refine Hs 14 (fun K HK=>?_);go_simp;go_wp2_with fail;refine HK.out _ _ ?_ ?_
 ·exact hS.set HN.out
 clear HK K;try simp only [Act.put,SL]
 obtain ⟨w7,hw7⟩:∃ w7,w6.setCell ⟨bw,0,none⟩ (.slice va LS.length vc)=w7:=⟨_,rfl⟩
 have FIN:Hid (∃ v,TrRF F w0 (v.ownBlock.toList ++ R) w7 d s n root E∧w7.heap[bw]?=some (.cells #[v] 186)∧RowE w7 v LS∧(∀ k∈R,k≠bw→w7.heap[k]?=w.heap[k]?)∧∀ k,v.ownBlock=some k→w.heap.size≤k):=Hd (by
  have f7:Frm (fun k=>k=bw) w6 w7:=by rw [← hw7]; exact fS _
  refine ⟨_,hT.turn (List.mem_append.2 (.inr HB.out.2.1)) HB.out.2.2.1 f7,?_,hrv.kept (fun k hk=>f7.block k (hT.lt k (List.mem_append.2 (.inl (by simp [hk])))) (fun e=>by have h1:w.heap.size≤k:=hnv k hk; have:=HB.out.2.2.2; omega)),fun k hk h1=>(f7.block k (hT.lt k (List.mem_append.2 (.inr hk))) h1).trans (hK k hk),hnv⟩;rw [← hw7,hss _ _ 0 _ _ _ V0]
  rfl)
 have hS2:ScnS bt bk bm t s root key most w7:=by rw [← hw7]; exact hS.set HN.out
 rw [hw7];clear hS hT hK hrv hnv V0 u0 u1 hw7;have hS:=hS2;clear hS2;refine Hu 15 4 hS ?_;simp only [SL];refine wpAnyH_done (by kernel_rfl) ?_ _;clear hS;go_wp2_with fail;go_ret;exact ⟨rfl,FIN.out⟩
theorem OE {F:Nat→Prop} {w0 w:World} {R:List Nat} {t d s n:Nat} {root key most:Int} {E:List Ent} (h:TrRF F w0 (t :: R) w d s n root E) (ht:w.heap[t]?=some (txC s root 0 false)) (ht0:w0.heap.size≤t) (hE:E.length≤600) (LS:List Ent) (hLS:(aQ key E).take most.toNat=LS) :
  Calls Tryz.prog 151 #[.pointer (some ⟨t,0,none⟩),.int .u64 key,.int .i64 most] w fun e w' => ∃ v,e=.returned v∧TrRF F w0 (t :: (v.ownBlock.toList ++ R)) w' d s n root E∧w'.heap[t]?=some (txC s root 0 false)∧RowE w' v LS∧(∀ k∈R,k≠t→w'.heap[k]?=w.heap[k]?)∧∀ k,v.ownBlock=some k→w.heap.size≤k:=by
 obtain ⟨x4,hx4⟩:∃ x4,(((w.alloc (.cells #[.pointer (some ⟨t,0,none⟩)] 24)).alloc (.cells #[.int .u64 key] 30)).alloc (.cells #[.int .i64 most] 3)).alloc (.cells #[.slice none 0 0] 186)=x4:=⟨_,rfl⟩
 obtain ⟨hT,m1,m2,m3,m4,htl,hlt,bw⟩:=QN h _ _ _ _ x4 hx4;have ht4:=(bw.block t htl).trans ht;have hs0:=h.size.size
 have DO:=Hd (QJ x4 t s root #[.pointer (some ⟨w.heap.size,0,none⟩),.pointer (some ⟨w.heap.size + 1,0,none⟩),.pointer (some ⟨w.heap.size + 2,0,none⟩),.pointer (some ⟨w.heap.size + 3,0,none⟩)] ht4
  (fun c w' => c=0∧∃ v,TrRF F w0 (v.ownBlock.toList ++ ((w.heap.size + 3) :: (w.heap.size + 2) :: (w.heap.size + 1) :: w.heap.size :: t :: R)) w' d s n root E∧w'.heap[w.heap.size + 3]?=some (.cells #[v] 186)∧RowE w' v LS∧(∀ k∈((w.heap.size + 3) :: (w.heap.size + 2) :: (w.heap.size + 1) :: w.heap.size :: t :: R),k≠w.heap.size + 3→w'.heap[k]?=x4.heap[k]?)∧∀ k,v.ownBlock=some k→x4.heap.size≤k)
  ((OG hT LS hLS ⟨m1,m2,ht4,m3⟩ (by simp) ⟨m4,by simp,by omega,hT.lt _ (by simp)⟩ ⟨by omega,by omega,by omega,by omega⟩ hE).mono fun e w' ⟨h1,v,h2,h3,h4,h5,h6⟩=>⟨0,h1,⟨rfl,v,h2,h3,h4,h5,h6⟩,root,(h5 t (by simp) (by omega)).trans ht4⟩))
 have HF:=Hd (And.intro ht4 (And.intro bw (And.intro htl (And.intro hlt ht0))));have bx:=(aJ m1).1;have HX:=Hd hx4;clear h ht hT m1 m2 m3 m4 htl hlt ht0 bw hx4 hE ht4 hs0 hLS;go_enter Tryz.func151,Tryz.ntmps151;go_upto_region 2 with fail
 try simp only [Nat.add_assoc,Nat.reduceAdd,World.heap_size_alloc]
 rw [HX.out];go_wp2_with fail;refine DO.out.mono ?_;rintro e w6 ⟨c,w5,rfl,⟨rfl,v,h1,h2,h3,h4,h5⟩,hw6⟩;have htl:=HF.out.2.2.1;have hsz:=HF.out.2.1.size;obtain ⟨g1,g2⟩:=SF ((h4 t (by simp) (by omega)).trans HF.out.1) hw6;have cv:=(aJ ((g2.block _ (h1.lt (w.heap.size + 3) (List.mem_append.2 (.inr (by simp)))) (by omega)).trans h2)).1;obtain ⟨va,vc,rfl⟩:=h3.shape
 have FIN:Hid (∃ v,(Value.slice va LS.length vc)=v∧TrRF F w0 (t :: (v.ownBlock.toList ++ R)) w6 d s n root E∧w6.heap[t]?=some (txC s root 0 false)∧RowE w6 v LS∧(∀ k∈R,k≠t→w6.heap[k]?=w.heap[k]?)∧∀ k,v.ownBlock=some k→w.heap.size≤k):=Hd (by
  refine ⟨_,rfl,(h1.turn (List.mem_append.2 (.inr (by simp))) HF.out.2.2.2.2 g2).sub (fun k hk=>by simp only [List.mem_cons,List.mem_append] at hk ⊢; rcases hk with hk | hk | hk <;> simp [hk]),g1,h3.kept (fun k hk=>g2.block k (h1.lt k (List.mem_append.2 (.inl (by simp [hk])))) (fun e=>by have:=h5 k hk; omega)),fun k hk hne=>?_,fun k hk=>by have:=h5 k hk; omega⟩;have hm:k∈((w.heap.size + 3) :: (w.heap.size + 2) :: (w.heap.size + 1) :: w.heap.size :: t :: R):=by simp [hk]
  have hkl:=HF.out.2.2.2.1 k (by simp [hk]);exact (g2.block k (h1.lt k (List.mem_append.2 (.inr hm))) hne).trans ((h4 k hm (by omega)).trans (HF.out.2.1.block k hkl)))
 clear h1 h2 h3 h4 h5 hw6 g1 g2 bx htl hsz;go_wp2_with fail;go_ret;obtain ⟨v,rfl,h⟩:=FIN.out;exact ⟨_,rfl,h⟩
def TxF (w0:World) (F:Nat→Prop) (w:World) (t d s n:Nat) (E:List Ent):Prop:=(∃ root,TrRF F w0 [t] w d s n root E∧w.heap[t]?=some (txC s root 0 false))∧w0.heap.size≤t
section
variable {F:Nat→Prop} {w0 w w' : World} {t d s n:Nat} {E:List Ent}
theorem TxF.lt (h:TxF w0 F w t d s n E):(∀ k,F k→k < w.heap.size)∧t < w.heap.size∧¬ F t:=by
 obtain ⟨⟨q,h1,h2⟩,_⟩:=h;exact ⟨fun k hk=>h1.2.1.lt k hk,h1.lt t (by simp),(h1.2.2.2 t (by simp)).2⟩
theorem TxF.from (h:TxF w0 F w t d s n E):Below w0.heap.size w0 w:=by
 obtain ⟨⟨q,h1,h2⟩,_⟩:=h;exact h1.size
theorem TxF.frm (h:TxF w0 F w t d s n E) {G:Nat→Prop} (hf:Frm G w w') (hG:∀ k,G k→¬ F k∧k≠t∧w0.heap.size≤k):TxF w0 F w' t d s n E:=by
 have hl:=h.lt;obtain ⟨⟨q,h1,h2⟩,h3⟩:=h;exact ⟨⟨q,⟨h1.1.trans (hf.below (fun i hi=>(hG i hi).2.2) h1.1.size),h1.2.1.frm hf (fun i hi e=>(hG i e).1 hi),h1.2.2.1,fun i hi=>⟨Nat.lt_of_lt_of_le (h1.2.2.2 i hi).1 hf.size,(h1.2.2.2 i hi).2⟩⟩,(hf.block t hl.2.1 (fun e=>(hG t e).2.1 rfl)).trans h2⟩,h3⟩
theorem TxF.below (h:TxF w0 F w t d s n E) (hb:Below w.heap.size w w'):TxF w0 F w' t d s n E:=h.frm (G:=fun _=>False) (Frm.of_below hb) fun _ h=>h.elim
theorem TxS.said {R:List Nat} (h:TxS w0 R w t d s n E):∃ F,TxF w0 F w t d s n E∧(∀ k∈R,¬ F k)∧∀ k,F k→w0.heap.size≤k:=by
 obtain ⟨⟨q,⟨a1,F,a2,a3,a4⟩,h2⟩,h3⟩:=h;exact ⟨F,⟨⟨q,⟨a1,a2,a3,fun k hk=>a4 k (by simp at hk; simp [hk])⟩,h2⟩,h3⟩,fun k hk=>(a4 k (List.mem_cons_of_mem _ hk)).2,a3⟩
theorem TxF.hide {R:List Nat} (h:TxF w0 F w t d s n E) (hR:∀ k∈R,k < w.heap.size∧¬ F k):TxS w0 R w t d s n E:=by
 obtain ⟨⟨q,h1,h2⟩,h3⟩:=h;exact ⟨⟨q,⟨h1.1,F,h1.2.1,h1.2.2.1,fun k hk=>(List.mem_cons.1 hk).elim (fun e=>e ▸ h1.2.2.2 t (by simp)) (hR k)⟩,h2⟩,h3⟩
open Classical in
theorem JR {key most:Int} (h:TxF w0 F w t d s n E) (hE:E.length≤600) (LS:List Ent) (hLS:(aQ key E).take most.toNat=LS) :
  Calls Tryz.prog 151 #[.pointer (some ⟨t,0,none⟩),.int .u64 key,.int .i64 most] w fun e w' => ∃ v,e=.returned v∧TxF w0 F w' t d s n E∧RowE w' v LS∧(∀ k,v.ownBlock=some k→w.heap.size≤k∧k < w'.heap.size∧¬ F k)∧Frm (fun k=>F k∨k=t) w w' := by
 obtain ⟨⟨q,h1,h2⟩,h3⟩:=h;obtain ⟨R,hR⟩:∃ R:List Nat,R=(List.range w.heap.size).filter fun k=>decide (¬ F k):=⟨_,rfl⟩
 have hm:∀ k,k∈R ↔ k < w.heap.size∧¬ F k:=fun k=>by rw [hR]; simp
 have hF0:=h1.2.1.lt;have hT:TrRF F w0 (t :: R) w d s n q E:=⟨h1.1,h1.2.1,h1.2.2.1,fun k hk=>(List.mem_cons.1 hk).elim (fun e=>e ▸ h1.2.2.2 t (by simp)) (fun hx=>(hm k).1 hx)⟩
 refine (OE hT h2 h3 hE LS hLS).mono ?_;rintro e w' ⟨v,rfl,g1,g2,g3,g4,g5⟩;refine ⟨v,rfl,⟨⟨q,g1.sub (fun k hk=>by simp at hk; simp [hk]),g2⟩,h3⟩,g3,fun k hk=>⟨g5 k hk,g1.2.2.2 k (by simp [hk])⟩,?_⟩;have b0:=h1.1;have b1:=g1.1;refine ⟨b1.os.trans b0.os.symm,b1.tape.trans b0.tape.symm,b1.output.trans b0.output.symm,?_,fun k hk hn=>?_⟩
 ·refine Nat.le_of_not_lt fun hlt=>?_
  have hk:w'.heap.size < w.heap.size:=hlt
  by_cases hx:F w'.heap.size
  ·have:=g1.2.1.lt _ hx; omega
  ·have:=g1.lt w'.heap.size (by simp only [List.mem_cons,List.mem_append]; exact .inr (.inr ((hm _).2 ⟨hk,hx⟩))); omega
 ·have hn' : ¬ F k∧k≠t:=⟨fun e=>hn (.inl e),fun e=>hn (.inr e)⟩
  exact g4 k ((hm k).2 ⟨hk,hn'.1⟩) hn'.2
end
def gL (k a b:Int):Bool:=decide (0≤k∧k≤15) && decide (0≤a∧a≤268435455) && decide (0≤b∧b≤4294967295)
def dZ (k a b:Int):Int:=if gL k a b=true then k * 1152921504606846976 + a * 4294967296 + b else 0
def spK (key:Int):Int:=key / 1152921504606846976
def spA (key:Int):Int:=key / 4294967296 % 268435456
def spB (key:Int):Int:=key % 4294967296
def iQ:Int:=18446744073709551615
def gK (key:Int):Bool:=decide (key < iQ)
def mO (key:Int):Int:=if key < iQ then key + 1 else 0
theorem KU (i x y:Nat) (hx:x % 2 ^ i=0) (hy:y < 2 ^ i) (h1:x < 18446744073709551616) (h2:y < 18446744073709551616):bits BinOp.or IntKind.u64 (x:Int) (y:Int)=((x + y:Nat):Int):=by
 rw [u64_or_nat x y h1 h2,nat_join i x y hx hy]
theorem SQ (k a b:Int) (k0:0≤k) (k1:k≤15) (a0:0≤a) (a1:a≤268435455) (b0:0≤b) (b1:b≤4294967295) :
  bits BinOp.or IntKind.u64 (bits BinOp.or IntKind.u64 (k * 1152921504606846976) (a * 4294967296)) b=k * 1152921504606846976 + a * 4294967296 + b:=by
 obtain ⟨k,rfl⟩:=Int.eq_ofNat_of_zero_le k0;obtain ⟨a,rfl⟩:=Int.eq_ofNat_of_zero_le a0;obtain ⟨b,rfl⟩:=Int.eq_ofNat_of_zero_le b0;have e1:((k:Int) * 1152921504606846976)=((k * 1152921504606846976:Nat):Int):=by omega
 have e2:((a:Int) * 4294967296)=((a * 4294967296:Nat):Int):=by omega
 rw [e1,e2,KU 60 (k * 1152921504606846976) (a * 4294967296) (by simp) (by simp; omega) (by omega) (by omega),
  KU 32 (k * 1152921504606846976 + a * 4294967296) b (by simp; omega) (by simp; omega) (by omega) (by omega)]
 omega
theorem tS (i:Nat) (x:Int) (m:Int) (hm:m=((2 ^ i - 1:Nat):Int)) (hi:2 ^ i≤18446744073709551616) (h0:0≤x) (h1:x < 18446744073709551616):bits BinOp.and IntKind.u64 x m=x % ((2 ^ i:Nat):Int):=by
 obtain ⟨x,rfl⟩:=Int.eq_ofNat_of_zero_le h0;have hp:0 < 2 ^ i:=Nat.pow_pos (by decide);rw [hm,u64_and_nat x (2 ^ i - 1) (by omega) (by omega),Nat.and_two_pow_sub_one_eq_mod];simp
theorem VG (key:Int) (k0:0≤key) (k1:key≤18446744073709551615):wrap64 (bits BinOp.and IntKind.u64 (key / 1152921504606846976) 15)=spK key:=by
 rw [tS 4 _ 15 (by decide) (by decide) (by omega) (by omega),spK];rw [IntWalk.wrap64_in] <;> simp <;> omega
theorem VI (key:Int) (k0:0≤key) (k1:key≤18446744073709551615):wrap64 (bits BinOp.and IntKind.u64 (key / 4294967296) 268435455)=spA key:=by
 rw [tS 28 _ 268435455 (by simp) (by simp) (by omega) (by omega),spA];rw [IntWalk.wrap64_in] <;> simp <;> omega
theorem VH (key:Int) (k0:0≤key) (k1:key≤18446744073709551615):wrap64 (bits BinOp.and IntKind.u64 key 4294967295)=spB key:=by
 rw [tS 32 _ 4294967295 (by simp) (by simp) (by omega) (by omega),spB];rw [IntWalk.wrap64_in] <;> simp <;> omega
theorem BF (k a b:Int):0≤dZ k a b∧dZ k a b≤18446744073709551615:=by
 unfold dZ
 cases h:gL k a b
 ·simp
 ·simp only [gL,Bool.and_eq_true,decide_eq_true_eq] at h
  simp only [if_true];omega
theorem cE (n last:Int) (v:Bool) (w:World) (hv:(decide (0≤n) && decide (n≤last))=v) :
  Calls Tryz.prog 159 #[.int .i64 n,.int .i64 last] w fun e w' => e=.returned (.bool v)∧w=w' := by
 have H:=Hd hv;clear hv
 by_cases h:n < 0
 ·go_enter Tryz.func159,Tryz.ntmps159
  go_wp2
  go_ret;refine ⟨?_,rfl⟩;rw [← H.out];exact cS (by simp; omega)
 ·go_enter Tryz.func159,Tryz.ntmps159
  go_wp2
  go_ret;refine ⟨?_,rfl⟩;rw [← H.out];exact cS (by simp; omega)
theorem SS (k a b:Int) (w:World) (k0:0≤k) (k1:k≤15) (a0:0≤a) (a1:a≤268435455) (b0:0≤b) (b1:b≤4294967295) :
  Calls Tryz.prog 126 #[.int .i64 k,.int .i64 a,.int .i64 b] w fun e w' => e=.returned (.tuple #[.int .u64 (k * 1152921504606846976 + a * 4294967296 + b),.bool true])∧w=w' := by
 have FIN:=Hd (SQ k a b k0 k1 a0 a1 b0 b1);go_enter Tryz.func126,Tryz.ntmps126;go_wp2_with fail;refine (cE _ _ true _ (by simp; omega)).mono ?_;rintro e w1 ⟨rfl,rfl⟩;go_wp2_with fail;refine (cE _ _ true _ (by simp; omega)).mono ?_;rintro e w1 ⟨rfl,rfl⟩;go_wp2_with fail;refine (cE _ _ true _ (by simp; omega)).mono ?_;rintro e w1 ⟨rfl,rfl⟩;go_wp2_with fail;rw [FIN.out];go_ret2;exact ⟨rfl,rfl⟩
theorem UT (k a b:Int) (w:World) (h:(decide (0≤k) && decide (k≤15))=false) :
  Calls Tryz.prog 126 #[.int .i64 k,.int .i64 a,.int .i64 b] w fun e w' => e=.returned (.tuple #[.int .u64 0,.bool false])∧w=w' := by
 have H:=Hd h;clear h;go_enter Tryz.func126,Tryz.ntmps126;go_wp2_with fail;refine (cE _ _ false _ H.out).mono ?_;rintro e w1 ⟨rfl,rfl⟩;go_wp2_with fail;go_ret2;exact ⟨rfl,rfl⟩
theorem UV (k a b:Int) (w:World) (k0:0≤k) (k1:k≤15) (h:(decide (0≤a) && decide (a≤268435455))=false) :
  Calls Tryz.prog 126 #[.int .i64 k,.int .i64 a,.int .i64 b] w fun e w' => e=.returned (.tuple #[.int .u64 0,.bool false])∧w=w' := by
 have H:=Hd h;clear h;go_enter Tryz.func126,Tryz.ntmps126;go_wp2_with fail;refine (cE _ _ true _ (by simp; omega)).mono ?_;rintro e w1 ⟨rfl,rfl⟩;go_wp2_with fail;refine (cE _ _ false _ H.out).mono ?_;rintro e w1 ⟨rfl,rfl⟩;go_wp2_with fail;go_ret2;exact ⟨rfl,rfl⟩
theorem UU (k a b:Int) (w:World) (k0:0≤k) (k1:k≤15) (a0:0≤a) (a1:a≤268435455) (h:(decide (0≤b) && decide (b≤4294967295))=false) :
  Calls Tryz.prog 126 #[.int .i64 k,.int .i64 a,.int .i64 b] w fun e w' => e=.returned (.tuple #[.int .u64 0,.bool false])∧w=w' := by
 have H:=Hd h;clear h;go_enter Tryz.func126,Tryz.ntmps126;go_wp2_with fail;refine (cE _ _ true _ (by simp; omega)).mono ?_;rintro e w1 ⟨rfl,rfl⟩;go_wp2_with fail;refine (cE _ _ true _ (by simp; omega)).mono ?_;rintro e w1 ⟨rfl,rfl⟩;go_wp2_with fail;refine (cE _ _ false _ H.out).mono ?_;rintro e w1 ⟨rfl,rfl⟩;go_wp2_with fail;go_ret2;exact ⟨rfl,rfl⟩
theorem BD (k a b:Int) (w:World) :
  Calls Tryz.prog 126 #[.int .i64 k,.int .i64 a,.int .i64 b] w fun e w' => e=.returned (.tuple #[.int .u64 (dZ k a b),.bool (gL k a b)])∧w=w' := by
 by_cases hk:0≤k∧k≤15
 ·by_cases ha:0≤a∧a≤268435455
  ·by_cases hb:0≤b∧b≤4294967295
   ·have ho:gL k a b=true:=by simp [gL,hk,ha,hb]
    simpa [dZ,ho] using SS k a b w hk.1 hk.2 ha.1 ha.2 hb.1 hb.2
   ·have ho:gL k a b=false:=by simp only [gL,hb,decide_false,Bool.and_false]
    simpa [dZ,ho] using UU k a b w hk.1 hk.2 ha.1 ha.2 (by rw [← Bool.decide_and]; simp only [hb,decide_false])
  ·have ho:gL k a b=false:=by simp only [gL,ha,decide_false,Bool.and_false,Bool.false_and]
   simpa [dZ,ho] using UV k a b w hk.1 hk.2 (by rw [← Bool.decide_and]; simp only [ha,decide_false])
 ·have ho:gL k a b=false:=by simp only [gL,hk,decide_false,Bool.false_and]
  simpa [dZ,ho] using UT k a b w (by rw [← Bool.decide_and]; simp only [hk,decide_false])
theorem rP (key:Int) (w:World) (k0:0≤key) (k1:key≤18446744073709551615)  :
  Calls Tryz.prog 111 #[.int .u64 key] w fun e w' => e=.returned (.tuple #[.int .i64 (spK key),.int .i64 (spA key),.int .i64 (spB key)])∧w=w' := by
 have F1:=Hd (VG key k0 k1);have F2:=Hd (VI key k0 k1);have F3:=Hd (VH key k0 k1);go_enter Tryz.func111,Tryz.ntmps111
 go_wp2
 rw [F1.out,F2.out,F3.out];go_ret3;exact ⟨rfl,rfl⟩
def xF (key:Int) (w:World) (e:Ending) (w' : World):Prop:=e=.returned (.tuple #[.int .u64 (mO key),.bool (gK key)])∧w=w'
theorem EP (key:Int) (w:World) (k0:0≤key) (k1:key≤18446744073709551615) :
  Calls Tryz.prog 152 #[.int .u64 key] w (xF key w):=by
 by_cases h:key < 18446744073709551615
 ·have F:Hid (mO key=key + 1∧gK key=true):=⟨by unfold mO iQ; rw [if_pos h],by unfold gK iQ; simp [h]⟩
  go_enter Tryz.func152,Tryz.ntmps152
  go_wp2
  all_goals go_ret2
  refine ⟨?_,rfl⟩;rw [F.out.1,F.out.2]
  rfl
 ·have F:Hid (mO key=0∧gK key=false):=⟨by unfold mO iQ; rw [if_neg h],by unfold gK iQ; simp; omega⟩
  go_enter Tryz.func152,Tryz.ntmps152
  go_wp2
  all_goals go_ret2
  refine ⟨?_,rfl⟩;rw [F.out.1,F.out.2]
  rfl
theorem LD (key:Int) (w:World) (k0:0≤key) (k1:key≤18446744073709551615) :
  Calls Tryz.prog 152 #[.int .u64 key] w fun e w' => e=.returned (.tuple #[.int .u64 (mO key),.bool (gK key)])∧w=w' := EP key w k0 k1
def jC (key k a:Int):Bool:=(spK key == k) && (spA key == a)
theorem SW (key k a:Int) (w:World) (k0:0≤key) (k1:key≤18446744073709551615) :
  Calls Tryz.prog 134 #[.int .u64 key,.int .i64 k,.int .i64 a] w fun e w' => e=.returned (.bool (jC key k a))∧w=w' := by
 have F:Hid (∀ v,v=jC key k a→Ending.returned (.bool v)=Ending.returned (.bool (jC key k a))):=fun v h=>by rw [h]
 by_cases h:spK key=k
 all_goals
  go_enter Tryz.func134,Tryz.ntmps134;go_wp2_with fail;refine (rP _ _ k0 k1).mono ?_;rintro e w1 ⟨rfl,rfl⟩;go_wp2_with fail;go_ret;refine ⟨F.out _ ?_,rfl⟩;simp [jC,h]
open Go Go.RowKit
section
variable {P:Program} {ops:Array Oper} {Q:Exit→Act→World→Prop} {md:Region.Mode} {S:World→Prop}
end
def TN (e:Ent):Array Value:=#[.int .u64 e.1,.string e.2]
def GK (w0:World) (F:Nat→Prop) (t bt bf:Nat) (k:Nat):Prop:=F k∨k=t∨k=bt∨k=bf∨k < w0.heap.size
theorem TL {α:Type} {P:Program} {fn:Func} {tmps:Array Value} (hres:fn.results=#[]) {w0 W w w1:World} {C C' G H F:Nat→Prop} {t d s n:Nat} {E:List Ent} {J Jx:List α→(Nat→Prop)→World→Prop} {Ys:List α}
  (hJ:∀ s D A B,J s D A→OnC D A B→J s D B) (hJx:∀ s D A B,Jx s D A→OnC D A B→Jx s D B) (hU:Under W C G H w1 C' w) (hT:TxF w0 F w t d s n E) (hTW:TxF w0 F W t d s n E) (Ds:List Nat) (hm:Marks w Ds) (hD:∀ D∈Ds,W.heap.size≤D∧¬ C' D) (hJJ:J Ys C' w∨∃ pre,pre <+: Ys∧Jx pre C' w) {z:Nat} (hz:W.heap.size=z) :
  LeavesInM Fence.wide 0 P fn tmps (fun e W' => (∃ v,e=.returned v)∧TxF w0 F W' t d s n E∧∃ C', Own1 (fun k=>C k∨G k) W C' W'∧(∀ k,C' k→C k∨z≤k)∧(J Ys C' W'∨∃ pre,pre <+: Ys∧Jx pre C' W')) (Ds.map mkD) .returning w:=by
 subst hz;refine eJ Ds w hm fun w' hf=>⟨_,results_none hres _ _ _,⟨_,rfl⟩,hT.frm hf fun k hk=>?_,C', ⟨hU.fr.trans hf fun k hk=>.inr (hD k hk).1,fun k hk=>(hU.cn k hk).imp .inl id⟩,hU.cn,?_⟩
 ·have h1:=(hD k hk).1
  have h2:=hTW.lt;have h3:=hTW.from.size;exact ⟨fun e=>by have:=h2.1 k e; omega,by omega,by omega⟩
 ·have ho:OnC C' w w' := .of_frm hf fun k hk hd=>(hD k hd).2 hk
  rcases hJJ with h | ⟨pre,hp,h⟩
  ·exact .inl (hJ _ _ _ _ h ho)
  ·exact .inr ⟨pre,hp,hJx _ _ _ _ h ho⟩
def BV (g:Nat) (u w:World):Prop:=w.heap[g]?=u.heap[g]?
def kyM (bf:Nat) (ob:Value) (w:World):Nat:=match ob with
 | .bool true=>match w.cell? ⟨bf,0,none⟩ with
  | some (.int _ x)=>1 + (18446744073709551616 - x).toNat
  | _=>1
 | _=>0
theorem DK {q:Int} {E:List Ent} (hS:mZ E) {x:Ent} {rest:List Ent} (h:aQ q E=x :: rest):q≤x.1∧x∈E∧aQ (x.1 + 1) E=rest∧∀ e∈rest,x.1 < e.1:=by
 have hs:mZ (x :: rest):=by rw [← h]; exact List.Pairwise.filter _ hS
 have hx:x∈aQ q E:=by rw [h]; exact List.mem_cons_self ..
 obtain ⟨hx1,hx2⟩:=List.mem_filter.1 hx;have hq:q≤x.1:=by simpa using hx2
 obtain ⟨p1,p2⟩:=List.pairwise_cons.1 hs;refine ⟨hq,hx1,?_,p1⟩
 have h2:aQ (x.1 + 1) (aQ q E)=aQ (x.1 + 1) E:=by
  unfold aQ;rw [List.filter_filter];refine List.filter_congr fun e he=>?_
  rw [← Bool.decide_and,decide_eq_decide];omega
 rw [← h2,h];unfold aQ;rw [List.filter_cons_of_neg (by simp; omega)];exact List.filter_eq_self.2 fun e he=>by have:=p1 e he; simp; omega
theorem GJ {α:Type} {Z:List α} {m:Nat} {x:α} {rest:List α} (h:Z.drop m=x :: rest):m < Z.length∧Z[m]?=some x∧Z.drop (m + 1)=rest∧Z.take (m + 1)=Z.take m ++ [x]:=by
 have hl:m < Z.length:=by
  refine Nat.lt_of_not_le fun hx=>?_
  rw [List.drop_eq_nil_of_le hx] at h
  cases h
 rw [List.drop_eq_getElem_cons hl] at h;injection h with h1 h2;have hz:Z[m]?=some x:=by rw [List.getElem?_eq_getElem hl,h1]
 exact ⟨hl,hz,h2,by rw [List.take_add_one,hz]; rfl⟩
theorem EU {w0 w:World} {F:Nat→Prop} {t d s n bt bf:Nat} {fr:Int} {E:List Ent} (h:TxF w0 F w t d s n E) (hE:E.length≤600) (hS:mZ E) (hK:∀ e∈E,0≤e.1∧e.1≤18446744073709551615) (hfr:0≤fr∧fr≤18446744073709551615)
  (h1:w.heap[bt]?=some (.cells #[.pointer (some ⟨t,0,none⟩)] 24)) (h2:w.heap[bf]?=some (.cells #[.int .u64 fr] 30)) (hn:¬ F bt∧¬ F bf∧bt≠t∧bf≠t∧bt≠bf) (hl:w0.heap.size≤bt∧w0.heap.size≤bf) :
  qU Tryz.prog 150 #[.pointer (some ⟨bt,0,none⟩),.pointer (some ⟨bf,0,none⟩)] TN (GK w0 F t bt bf) (fun W=>TxF w0 F W t d s n E) (aQ fr E) w:=by
 intro l J Jx W C hW hJ hJx hlt hltx hCG hR h0;have hTW:=h.below hW;have lb1:bt < w.heap.size:=(zl h1);have lb2:bf < w.heap.size:=(zl h2);have k1:=(hW.block bt lb1).trans h1;have k2:=(hW.block bf lb2).trans h2;have sW:=hW.size;obtain ⟨G,hG⟩:∃ G,G=GK w0 F t bt bf:=⟨_,rfl⟩
 obtain ⟨H,hH⟩:∃ H:Nat→Prop,H=fun k=>k=bt:=⟨_,rfl⟩
 rw [← hG] at hCG ⊢;have gG:∀ k,G k ↔ F k∨k=t∨k=bt∨k=bf∨k < w0.heap.size:=fun k=>by rw [hG]; exact Iff.rfl
 have gH:∀ k,H k ↔ k=bt:=fun k=>by rw [hH]
 have lW:=hTW.lt
 have hU:Under W C G H W C W:=by
  refine ⟨Frm.refl _ _,fun k hk=>.inl hk,hCG,fun k hk hh=>hCG k hk ((gG k).2 (.inr (.inr (.inl ((gH k).1 hh))))),fun k hk=>⟨by rw [(gH k).1 hk]; omega,rfl⟩,Nat.le_refl _,fun k hk=>?_,Nat.le_refl _⟩
  rcases (gG k).1 hk with h | rfl | rfl | rfl | h
  ·exact lW.1 k h
  ·exact lW.2.1
  ·omega
  ·omega
  ·have:=hTW.from.size; omega
 obtain ⟨Ys,hYs⟩:∃ Ys,aQ fr E=Ys:=⟨_,rfl⟩
 rw [hYs] at hR ⊢;have HGG:=Hd (And.intro gG gH);have HTW:=Hd hTW;have HU:=Hd hU;have HN:=Hd (And.intro hn hl);have K1:=Hd k1;have HI:Hid (aQ fr E=Ys.drop 0∧0≤fr∧fr≤18446744073709551615):=Hd ⟨hYs,hfr⟩;have K2:=Hd k2;have H0:=Hd h0;have HSK:=Hd (And.intro hS (And.intro hK hE));clear h hS hK h1 h2 hn hl lb1 lb2 k1 k2 hG hH gG gH lW hU hTW hYs hW sW hfr hE;refine (callsIn_wide (n:=0)).1 (callsIn_of_wp_marks (F:=Fence.wide) (n:=0) Tryz.func150 rfl trivial (wpIn_wide.2 ?_) rfl)
 simp only [Tryz.ntmps150,List.size_toArray,List.length_cons,List.length_nil,Nat.reduceAdd,Nat.reduceSub,Array.replicate_succ,Array.replicate_zero,List.push_toArray,List.append_toArray,List.nil_append,List.cons_append];go_wp2_with fail
 go_loopw [4] (fun ob wr=>∃ (m:Nat) (C1:Nat→Prop) (q:Int) (b:Bool),ob=.bool b∧m≤Ys.length∧Hid (Under W C G H W C1 wr)∧Hid (TxF w0 F wr t d s n E)∧Hid (wr.heap[bf]?=some (.cells #[.int .u64 q] 30))∧Hid (J (Ys.take m) C1 wr)∧Hid ((b=true∧aQ q E=Ys.drop m∧0≤q∧q≤18446744073709551615)∨(b=false∧m=Ys.length))) (fun ob wr=>kyM bf ob wr)
 case atStart=>exact ⟨0,C,fr,true,rfl,Nat.zero_le _,HU,HTW,K2,H0,Hd (.inl ⟨rfl,HI.out⟩)⟩
 case round =>
  obtain ⟨m,C1,q,b,rfl,hm,HUr,HTr,HF,HJr,HQ⟩:=hrel
  rcases HQ.out with ⟨rfl,hsc,hq0,hq1⟩ | ⟨rfl,rfl⟩
  ·have c1:=(aJ (((HUr.out.hk bt ((HGG.out.2 bt).2 rfl)).2).trans K1.out)).1
   have c2:=(aJ HF.out).1;have HM:Hid (kyM bf (.bool true) wr=1 + (18446744073709551616 - q).toNat):=Hd (by simp only [kyM,c2]);have HSC:=Hd (And.intro hsc (And.intro hq0 hq1))
   rcases hdr:Ys.drop m with _ | ⟨x,rest⟩
   ·have SC:=Hd (JR (key:=q) (most:=1) HTr.out HSK.out.2.2 [] (by rw [hsc,hdr]; rfl))
    have HDR:=Hd hdr;clear hsc hq0 hq1 hdr HQ;go_upto_region 2 with fail
    go_wp2_with fail;refine SC.out.mono ?_;rintro e w2 ⟨v,rfl,hT2,hrow,hv,hf2⟩;obtain ⟨va,vc,rfl⟩:=hrow.shape
    have U2:Under W C G H W C1 w2:=HUr.out.step hf2 fun k hk=>⟨.inl ((HGG.out.1 k).2 (hk.imp id .inl)),fun hh=>by
     have e:=(HGG.out.2 k).1 hh
     rcases hk with hk | hk
     ·exact HN.out.1.1 (e ▸ hk)
     ·exact HN.out.1.2.2.1 (e ▸ hk)⟩
    have J2:=hJ _ _ _ _ HJr.out (HUr.out.on hf2 fun k hk hc=>HUr.out.cg k hc ((HGG.out.1 k).2 (hk.imp id .inl)));have HU2:=Hd U2;have HJ2:=Hd J2;have HT2:=Hd hT2;clear c1 c2 hrow hv hf2 U2 J2 hT2 SC HJr HUr HTr HF;go_upto_region 3 with fail
    refine (wpIn_wide (n:=0)).1 (wpIn_mono (Q:=mN _) (wpIn_wide.2 ?_) pV);refine wp_region_held_drew (S:=fun _=>True) (by kernel_rfl) trivial (fun hS=>?_);refine Hu 0 10 hS ?_;simp only [SL];refine Hu 1 11 hS ?_;simp only [SL];refine Hu 2 12 hS ?_;simp only [SL];refine Hu 3 13 hS ?_;simp only [SL];refine Hn 4 14 hS ?_;simp only [SL];refine Hn 5 15 hS ?_;simp only [SL];refine Hn 6 16 hS ?_;simp only [SL];refine Hn 7 17 hS ?_;simp only [SL];refine Hn 8 18 hS ?_;simp only [SL];refine Hn 9 19 hS ?_;simp only [SL];refine Hn 10 20 hS ?_;simp only [SL];refine Hn 11 21 hS ?_
    simp only [SL];refine Hn 12 22 hS ?_;simp only [SL];refine Hn 13 23 hS ?_;simp only [SL];refine Hn 14 24 hS ?_;simp only [SL];refine Hu 15 25 hS ?_;simp only [SL];refine wpAnyH_done (by kernel_rfl) ?_ _;simp only [mN];go_wp2_with fail;refine TL (P:=Tryz.prog) rfl hJ hJx (HU2.out.step (D:=fun _=>False) (Frm.of_below Br.drew) fun _ h=>h.elim) (HT2.out.below Br.drew) HTW.out [] (Marks.nil _) (fun D hD=>by cases hD) (.inl ?_) rfl;have hj:=hJ _ _ _ _ HJ2.out (.of_frm (G:=fun _=>False) (Frm.of_below (Below.refl _ w2).drew) fun _ _ h=>h)
    rwa [List.take_of_length_le (List.drop_eq_nil_iff.1 HDR.out)] at hj
   ·obtain ⟨dl,dz,dr,dt⟩:=GJ hdr
    obtain ⟨n1,n2,n3,n4⟩:=DK HSK.out.1 (hsc.trans hdr);have SC:=Hd (JR (key:=q) (most:=1) HTr.out HSK.out.2.2 [x] (by rw [hsc,hdr]; rfl));obtain ⟨xk,xv⟩:=x;have hxk:=HSK.out.2.1 _ n2;have HX:Hid (m + 1≤Ys.length∧q≤xk∧(0≤xk∧xk≤18446744073709551615)∧aQ (xk + 1) E=rest∧(∀ e∈rest,xk < e.1)∧Ys.drop (m + 1)=rest∧Ys.take (m + 1)=Ys.take m ++ [(xk,xv)]):=Hd ⟨dl,n1,hxk,n3,n4,dr,dt⟩;clear hsc hq0 hq1 hdr HQ dl dz dr dt n1 n2 n3 n4 hxk;go_upto_region 2 with fail
    go_wp2_with fail;refine SC.out.mono ?_;rintro e w2 ⟨v,rfl,hT2,hrow,hv,hf2⟩;obtain ⟨va,vc,rfl⟩:=hrow.shape;obtain ⟨g,rfl,hg1,hg2,hg3⟩:=hrow.at (j:=0) (e:=(xk,xv)) rfl;simp only [Nat.zero_mul,Nat.zero_add] at hg2 hg3;have hgv:=hv g rfl
    have U2:Under W C G H W C1 w2:=HUr.out.step hf2 fun k hk=>⟨.inl ((HGG.out.1 k).2 (hk.imp id .inl)),fun hh=>by
     have e:=(HGG.out.2 k).1 hh
     rcases hk with hk | hk
     ·exact HN.out.1.1 (e ▸ hk)
     ·exact HN.out.1.2.2.1 (e ▸ hk)⟩
    have J2:=hJ _ _ _ _ HJr.out (HUr.out.on hf2 fun k hk hc=>HUr.out.cg k hc ((HGG.out.1 k).2 (hk.imp id .inl)));have F2:=(hf2.block bf (zl HF.out) (fun e=>e.elim HN.out.1.2.1 HN.out.1.2.2.2.1)).trans HF.out;have HGC:Hid (¬ C1 g∧bf < wr.heap.size):=Hd ⟨fun hc=>by have:=hlt _ _ _ HJr.out g hc; omega,(zl HF.out)⟩;obtain ⟨wd,hwd⟩:∃ wd,w2.drew=wd:=⟨_,rfl⟩
    have bd:Below w2.heap.size w2 wd:=by rw [← hwd]; exact Br.drew
    have HUd:=Hd (U2.step (D:=fun _=>False) (Frm.of_below bd) fun _ h=>h.elim);have HTd:=Hd (hT2.below bd);have hJd:=hJ _ _ _ _ J2 (.of_frm (G:=fun _=>False) (Frm.of_below bd) fun _ _ h=>h);have HFd:=Hd ((bd.block bf (by have:=HGC.out.2; have:=hf2.size; omega)).trans F2);have HG2:Hid (wd.cell? ⟨g,0,none⟩=some (.int .u64 xk)∧wd.cell? ⟨g,1,none⟩=some (.string xv)∧g < wd.heap.size):=Hd ⟨(gV (bd.block g hg1)).trans hg2,(gV (bd.block g hg1)).trans hg3,Nat.lt_of_lt_of_le hg1 bd.size⟩;have hSd:BV g wd wd:=rfl
    obtain ⟨fn2,tmps2,assign2,body2,hyl,hRR⟩:=hR _ (xk,xv) C1 wd (by rw [← HX.out.2.2.2.2.2.2]; exact List.take_prefix _ _) hJd;have HYL:=Hd hyl;have HRR:=Hd hRR;clear c1 c2 hrow hv hf2 U2 J2 hT2 SC HJr HUr HTr HF F2 hg1 hg2 hg3 hgv hJd hyl hRR;go_upto_region 3 with fail
    refine (wpIn_wide (n:=0)).1 (wpIn_mono (Q:=mN _) (AU (S:=BV g wd) (by kernel_rfl) ?_) pV);rw [hwd];clear hwd bd;refine dC (i:=0) 10 (v:=?vy0) rfl rfl (by kernel_rfl) (by kernel_rfl) (by kernel_rfl) (fun _ _ _ h=>h) hSd (by rfl) ?hy0 ?ry0
    case hy0 =>
     intro w9 s9;clear s9;go_simp;try (with_reducible rfl)
    simp only [SL];refine dC (i:=1) 11 (v:=?vy1) rfl rfl (by kernel_rfl) (by kernel_rfl) (by kernel_rfl) (fun _ _ _ h=>h) hSd (by rfl) ?hy1 ?ry1
    case hy1 =>
     intro w9 s9;clear s9;go_simp;try (with_reducible rfl)
    simp only [SL];refine dC (i:=2) 12 (v:=?vy2) rfl rfl (by kernel_rfl) (by kernel_rfl) (by kernel_rfl) (fun _ _ _ h=>h) hSd (by rfl) ?hy2 ?ry2
    case hy2 =>
     intro w9 s9;clear s9;go_simp;try (with_reducible rfl)
    simp only [SL];refine dC (i:=3) 13 (v:=?vy3) rfl rfl (by kernel_rfl) (by kernel_rfl) (by kernel_rfl) (fun _ _ _ h=>h) hSd (by rfl) ?hy3 ?ry3
    case hy3 =>
     intro w9 s9;clear s9;go_simp;try (with_reducible rfl)
    simp only [SL];refine dC (i:=4) 14 (v:=?vy4) rfl rfl (by kernel_rfl) (by kernel_rfl) (by kernel_rfl) (fun _ _ _ h=>h) hSd (by rfl) ?hy4 ?ry4
    case hy4 =>
     intro w9 s9;clear s9;go_simp;try (with_reducible rfl)
    simp only [SL];refine dC (i:=5) 15 (v:=?vy5) rfl rfl (by kernel_rfl) (by kernel_rfl) (by kernel_rfl) (fun _ _ _ h=>h) hSd (by rfl) ?hy5 ?ry5
    case hy5 =>
     intro w9 s9;clear s9;go_simp;try (with_reducible rfl)
    simp only [SL];refine dC (i:=6) 16 (v:=?vy6) rfl rfl (by kernel_rfl) (by kernel_rfl) (by kernel_rfl) (fun _ _ _ h=>h) hSd (by rfl) ?hy6 ?ry6
    case hy6 =>
     intro w9 s9;clear s9;go_simp;try (with_reducible rfl)
    simp only [SL];refine dC (i:=7) 17 (v:=?vy7) rfl rfl (by kernel_rfl) (by kernel_rfl) (by kernel_rfl) (fun _ _ _ h=>h) hSd (by rfl) ?hy7 ?ry7
    case hy7 =>
     intro w9 s9;clear s9;go_simp;try (with_reducible rfl)
    simp only [SL];refine dC (i:=8) 18 (v:=?vy8) rfl rfl (by kernel_rfl) (by kernel_rfl) (by kernel_rfl) (fun _ _ _ h=>h) hSd (by rfl) ?hy8 ?ry8
    case hy8 =>
     intro w9 s9;have k9:=(gV (i:=0) s9).trans HG2.out.1;clear s9;go_simp;try (with_reducible rfl)
    simp only [SL];refine dC (i:=9) 19 (v:=?vy9) rfl rfl (by kernel_rfl) (by kernel_rfl) (by kernel_rfl) (fun _ _ _ h=>h) hSd (by rfl) ?hy9 ?ry9
    case hy9 =>
     intro w9 s9;clear s9;go_simp;try (with_reducible rfl)
    simp only [SL];refine dC (i:=10) 20 (v:=?vy10) rfl rfl (by kernel_rfl) (by kernel_rfl) (by kernel_rfl) (fun _ _ _ h=>h) hSd (by rfl) ?hy10 ?ry10
    case hy10 =>
     intro w9 s9;clear s9;go_simp;try (with_reducible rfl)
    simp only [SL];refine dC (i:=11) 21 (v:=?vy11) rfl rfl (by kernel_rfl) (by kernel_rfl) (by kernel_rfl) (fun _ _ _ h=>h) hSd (by rfl) ?hy11 ?ry11
    case hy11 =>
     intro w9 s9;clear s9;go_simp;try (with_reducible rfl)
    simp only [SL];refine dC (i:=12) 22 (v:=?vy12) rfl rfl (by kernel_rfl) (by kernel_rfl) (by kernel_rfl) (fun _ _ _ h=>h) hSd (by rfl) ?hy12 ?ry12
    case hy12 =>
     intro w9 s9;have k9:=(gV (i:=1) s9).trans HG2.out.2.1;clear s9;go_simp;try (with_reducible rfl)
    simp only [SL];refine nX (i:=13) rfl (by kernel_rfl) (by rfl) (fun K hK=>?_);have HK:=Hd hK;clear hK;have hyl:=HYL.out;unfold TN at hyl;go_simp;refine ⟨rfl,HRR.out.mono ?_⟩;rintro e w8 ⟨C8,ho8,(⟨rfl,hj8⟩ | ⟨rfl,hj8⟩)⟩
    ·have U8:=HUd.out.round ho8
     have T8:=HTd.out.frm ho8.1 fun k hk=>⟨fun e=>HUd.out.cg k hk ((HGG.out.1 k).2 (.inl e)),fun e=>HUd.out.cg k hk ((HGG.out.1 k).2 (.inr (.inl e))),Nat.le_of_not_lt fun e=>HUd.out.cg k hk ((HGG.out.1 k).2 (.inr (.inr (.inr (.inr e)))))⟩
     rw [← HX.out.2.2.2.2.2.2] at hj8;have S8:BV g wd w8:=ho8.1.block g HG2.out.2.2 HGC.out.1;have F8:=(ho8.1.block bf (zl HFd.out) (fun hc=>HUd.out.cg bf hc ((HGG.out.1 bf).2 (.inr (.inr (.inr (.inl rfl))))))).trans HFd.out;have HS8:=Hd S8;have HF8:=Hd F8;have HU8:=Hd U8;have HT8:=Hd T8;have HJ8:=Hd hj8;refine HK.out _ _ S8 ?_;clear HK K hyl HYL HRR hSd HUd HTd U8 T8 ho8 hj8 S8 F8;try simp only [Act.put,SL]
     refine nX (i:=14) rfl (by kernel_rfl) (by rfl) (fun K hK=>?_);have HK:=Hd hK;clear hK;go_simp;refine HK.out _ _ HS8.out ?_;clear HK K;try simp only [Act.put,SL]
     refine nX (i:=15) rfl (by kernel_rfl) (by rfl) (fun K hK=>?_);have HK:=Hd hK;clear hK;go_simp;refine HK.out _ _ HS8.out ?_;clear HK K;try simp only [Act.put,SL]
     refine BQ (by kernel_rfl) ?_ _;simp only [mN];have k9:=(gV (i:=0) HS8.out).trans HG2.out.1;obtain ⟨f9,f8⟩:=aJ HF8.out;obtain ⟨q', hq'⟩:∃ q', mO xk=q' := ⟨_,rfl⟩
     obtain ⟨b', hb'⟩:∃ b', gK xk=b' := ⟨_,rfl⟩
     have NX:=Hd (fun w=>by have:=LD xk w HX.out.2.2.1.1 HX.out.2.2.1.2; unfold xF at this; rw [hq', hb'] at this; exact this);have HQB:=Hd (And.intro hq' hb');clear hq' hb';go_wp2_with fail;refine (NX.out _).mono ?_;rintro e w9 ⟨rfl,rfl⟩;obtain ⟨wz,hwz⟩:∃ wz,w8.setCell ⟨bf,0,none⟩ (.int .u64 q')=wz:=⟨_,rfl⟩
     have fz:Frm (fun k=>k=bf) w8 wz:=by rw [← hwz]; exact fS _
     have Uz:=Hd (HU8.out.step fz fun k hk=>⟨.inl ((HGG.out.1 k).2 (.inr (.inr (.inr (.inl hk))))),fun hh=>HN.out.1.2.2.2.2 (((HGG.out.2 k).1 hh).symm.trans hk)⟩);have Tz:=Hd (HT8.out.frm fz fun k hk=>by subst hk; exact ⟨HN.out.1.2.1,HN.out.1.2.2.2.1,HN.out.2.2⟩);have Jz:=Hd (hJ _ _ _ _ HJ8.out (HU8.out.on fz fun k hk hc=>HU8.out.cg k hc ((HGG.out.1 k).2 (.inr (.inr (.inr (.inl hk)))))));have fzc:wz.heap[bf]?=some (.cells #[.int .u64 q'] 30):=by rw [← hwz,hss _ _ 0 _ _ _ HF8.out]; rfl
     have FZ:=Hd fzc;have HWZ:=Hd hwz
     have QZ:Hid (((b'=true∧aQ q' E=Ys.drop (m + 1)∧0≤q'∧q'≤18446744073709551615)∨(b'=false∧m + 1=Ys.length))∧kyM bf (.bool b') wz < kyM bf (.bool true) wr):=Hd (by
      obtain ⟨y1,y2,y3,y4,y5,y6,y7⟩:=HX.out;obtain ⟨z1,z2⟩:=HQB.out;rw [HM.out];have cz:=(aJ fzc).1
      by_cases hx:xk < iQ
      ·have e1:mO xk=xk + 1:=by unfold mO; rw [if_pos hx]
       have e2:gK xk=true:=by unfold gK; simp [hx]
       unfold iQ at hx;rw [e1] at z1;rw [e2] at z2;subst z1 z2;refine ⟨.inl ⟨rfl,by rw [y4,y6],by omega,by omega⟩,?_⟩;simp only [kyM,cz];omega
      ·have e2:gK xk=false:=by unfold gK; simp [hx]
       rw [e2] at z2;subst z2;refine ⟨.inr ⟨rfl,?_⟩,?_⟩
       ·have hr:rest=[]:=by
         cases hrr:rest with
         | nil=>rfl
         | cons e r =>
          exfalso
          have h5:=y5 e (by rw [hrr]; exact List.mem_cons_self ..)
          have h6:e∈E:=by
           have:e∈aQ (xk + 1) E:=by rw [y4,hrr]; exact List.mem_cons_self ..
           exact (List.mem_filter.1 this).1
          have h7:=(HSK.out.2.1 e h6).2;unfold iQ at hx;omega
        rw [hr] at y6;have:=List.drop_eq_nil_iff.1 y6;omega
       ·simp only [kyM]
        omega)
     clear NX fz fzc HQB HM HU8 HT8 HJ8 HF8 HS8 hwz;have hwz:=HWZ.out;go_wp2_with fail;refine ⟨⟨m + 1,C8,q', b', rfl,HX.out.1,Uz,Tz,FZ,Jz,Hd QZ.out.1⟩,?_⟩;exact QZ.out.2
    ·have U8:=HUd.out.round ho8
     have T8:=HTd.out.frm ho8.1 fun k hk=>⟨fun e=>HUd.out.cg k hk ((HGG.out.1 k).2 (.inl e)),fun e=>HUd.out.cg k hk ((HGG.out.1 k).2 (.inr (.inl e))),Nat.le_of_not_lt fun e=>HUd.out.cg k hk ((HGG.out.1 k).2 (.inr (.inr (.inr (.inr e)))))⟩
     rw [← HX.out.2.2.2.2.2.2] at hj8;have S8:BV g wd w8:=ho8.1.block g HG2.out.2.2 HGC.out.1;have F8:=(ho8.1.block bf (zl HFd.out) (fun hc=>HUd.out.cg bf hc ((HGG.out.1 bf).2 (.inr (.inr (.inr (.inl rfl))))))).trans HFd.out;have HS8:=Hd S8;have HF8:=Hd F8;have HU8:=Hd U8;have HT8:=Hd T8;have HJ8:=Hd hj8;refine HK.out _ _ S8 ?_;clear HK K hyl HYL HRR hSd HUd HTd U8 T8 ho8 hj8 S8 F8;try simp only [Act.put,SL]
     refine nX (i:=14) rfl (by kernel_rfl) (by rfl) (fun K hK=>?_);have HK:=Hd hK;clear hK;go_simp;refine HK.out _ _ HS8.out ?_;clear HK K;try simp only [Act.put,SL]
     refine nX (i:=15) rfl (by kernel_rfl) (by rfl) (fun K hK=>?_);have HK:=Hd hK;clear hK;go_simp;refine HK.out _ _ HS8.out ?_;clear HK K;try simp only [Act.put,SL]
     refine BQ (by kernel_rfl) ?_ _;simp only [mN];go_wp2_with fail;exact TL (P:=Tryz.prog) rfl hJ hJx HU8.out HT8.out HTW.out [] (Marks.nil _) (fun D hD=>by cases hD) (.inr ⟨_,List.take_prefix _ _,HJ8.out⟩) rfl
  ·clear HQ
   go_wp2_with fail;refine TL (P:=Tryz.prog) rfl hJ hJx HUr.out HTr.out HTW.out [] (Marks.nil _) (fun D hD=>by cases hD) (.inl ?_) rfl;have:=HJr.out;rwa [List.take_of_length_le (Nat.le_refl _)] at this
theorem bQ {w w' : World} {a:Nat} {o:Obj} (h:w.alloc o=w') (ha:w.heap.size=a):w'.heap.size=a + 1∧w'.heap[a]?=some o∧Below w.heap.size w w' := by
 subst h ha;exact ⟨by simp,han _ _,aA _ _⟩
def IB {α:Type} (J:List α→(Nat→Prop)→World→Prop) (Y:List (Nat × Obj)) (pre:List α) (D:Nat→Prop) (W:World):Prop:=∃ C2:Nat→Prop,(∀ k,D k ↔ C2 k∨k∈Y.map (·.1))∧J pre C2 W∧∀ p∈Y,W.heap[p.1]?=some p.2∧¬ C2 p.1
theorem IB.on {α:Type} {J:List α→(Nat→Prop)→World→Prop} (hJ:∀ s D A B,J s D A→OnC D A B→J s D B) {Y:List (Nat × Obj)} (s:List α) (D:Nat→Prop) (A B:World) (h:IB J Y s D A) (ho:OnC D A B):IB J Y s D B:=by
 obtain ⟨C2,h1,h2,h3⟩:=h;exact ⟨C2,h1,hJ _ _ _ _ h2 (ho.mono fun k hk=>(h1 k).2 (.inl hk)),fun p hp=>⟨(ho.block p.1 (zl (h3 p hp).1) ((h1 _).2 (.inr (List.mem_map.2 ⟨p,hp,rfl⟩)))).trans (h3 p hp).1,(h3 p hp).2⟩⟩
theorem IB.lt {α:Type} {J:List α→(Nat→Prop)→World→Prop} (hl:∀ s D A,J s D A→∀ k,D k→k < A.heap.size) {Y:List (Nat × Obj)} (s:List α) (D:Nat→Prop) (A:World) (h:IB J Y s D A) (k:Nat) (hk:D k):k < A.heap.size:=by
 obtain ⟨C2,h1,h2,h3⟩:=h
 rcases (h1 k).1 hk with h5 | h5
 ·exact hl _ _ _ h2 k h5
 ·obtain ⟨p,hp,rfl⟩:=List.mem_map.1 h5
  exact (zl (h3 p hp).1)
theorem IB.next {α:Type} {J' : List α→(Nat→Prop)→World→Prop} {Y:List (Nat × Obj)} {s:List α} {D C2 C3:Nat→Prop} {w w' : World} (h1:∀ k,D k ↔ C2 k∨k∈Y.map (·.1)) (hy:∀ p∈Y,w.heap[p.1]?=some p.2∧¬ C2 p.1) (ho:Own1 C2 w C3 w') (hj:J' s C3 w'):∃ D', Own1 D w D' w'∧IB J' Y s D' w' := by
 refine ⟨fun k=>C3 k∨k∈Y.map (·.1),⟨ho.1.mono fun k hk=>(h1 k).2 (.inl hk),fun k hk=>?_⟩,C3,fun _=>Iff.rfl,hj,fun p hp=>⟨(ho.1.block p.1 (zl (hy p hp).1) (hy p hp).2).trans (hy p hp).1,fun h=>?_⟩⟩
 ·rcases hk with hk | hk
  ·exact (ho.2 k hk).imp (fun h=>(h1 k).2 (.inl h)) id
  ·exact .inl ((h1 _).2 (.inr hk))
 ·rcases ho.2 _ h with h | h
  ·exact (hy p hp).2 h
  ·have:=(zl (hy p hp).1); omega
theorem IB.same {α:Type} {J:List α→(Nat→Prop)→World→Prop} {Y:List (Nat × Obj)} {s:List α} {D C2:Nat→Prop} {w:World} (h1:∀ k,D k ↔ C2 k∨k∈Y.map (·.1)) (hy:∀ p∈Y,w.heap[p.1]?=some p.2∧¬ C2 p.1) (hj:J s C2 w):IB J Y s D w:=⟨C2,h1,hj,hy⟩
theorem MM {α:Type} {P:Program} {fn:Func} {tmps:Array Value} (hres:fn.results=#[]) {w0 W w:World} {C C' G F:Nat→Prop} {t d s n:Nat} {E:List Ent} {J Jx:List α→(Nat→Prop)→World→Prop} {Ys:List α}
  (hJ:∀ s D A B,J s D A→OnC D A B→J s D B) (hJx:∀ s D A B,Jx s D A→OnC D A B→Jx s D B) (hfr:Frm (fun k=>C k∨G k) W w) (hcn:∀ k,C' k→C k∨W.heap.size≤k) (hT:TxF w0 F w t d s n E) (hTW:TxF w0 F W t d s n E) (Ds:List Nat) (hm:Marks w Ds) (hD:∀ D∈Ds,W.heap.size≤D∧¬ C' D) (hJJ:J Ys C' w∨∃ pre,pre <+: Ys∧Jx pre C' w) {z:Nat} (hz:W.heap.size=z) :
  LeavesInM Fence.wide 0 P fn tmps (fun e W' => (∃ v,e=.returned v)∧TxF w0 F W' t d s n E∧∃ C', Own1 (fun k=>C k∨G k) W C' W'∧(∀ k,C' k→C k∨z≤k)∧(J Ys C' W'∨∃ pre,pre <+: Ys∧Jx pre C' W')) (Ds.map mkD) .returning w:=by
 subst hz;refine eJ Ds w hm fun w' hf=>⟨_,results_none hres _ _ _,⟨_,rfl⟩,hT.frm hf fun k hk=>?_,C', ⟨hfr.trans hf fun k hk=>.inr (hD k hk).1,fun k hk=>(hcn k hk).imp .inl id⟩,hcn,?_⟩
 ·have h1:=(hD k hk).1
  have h2:=hTW.lt;have h3:=hTW.from.size;exact ⟨fun e=>by have:=h2.1 k e; omega,by omega,by omega⟩
 ·have ho:OnC C' w w' := .of_frm hf fun k hk hd=>(hD k hd).2 hk
  rcases hJJ with h | ⟨pre,hp,h⟩
  ·exact .inl (hJ _ _ _ _ h ho)
  ·exact .inr ⟨pre,hp,hJx _ _ _ _ h ho⟩
theorem IR {α:Type} {p:α→Bool}:∀ (K:List α) {e:α},e∈K.takeWhile p→p e=true
 | [],e,h=>by simp at h
 | x :: K,e,h=>by
  cases hx:p x with
  | false=>rw [List.takeWhile_cons_of_neg (by simp [hx])] at h; cases h
  | true =>
   rw [List.takeWhile_cons_of_pos hx] at h
   rcases List.mem_cons.1 h with rfl | h
   ·exact hx
   ·exact IR K h
theorem NO {α:Type} {p:α→Bool} {K pre:List α} {x:α} (h:(pre ++ [x]) <+: K) (hp:pre <+: K.takeWhile p):(p x=true→(pre ++ [x]) <+: K.takeWhile p)∧(p x=false→K.takeWhile p=pre):=by
 obtain ⟨r,rfl⟩:=h
 have hall:∀ e∈pre,p e=true:=fun e he=>by
  have:=hp.subset he;exact IR _ this
 rw [List.append_assoc,List.takeWhile_append_of_pos hall];refine ⟨fun hx=>?_,fun hx=>?_⟩
 ·rw [List.singleton_append,List.takeWhile_cons_of_pos hx]
  exact ⟨r.takeWhile p,by simp⟩
 ·rw [List.singleton_append,List.takeWhile_cons_of_neg (by simp [hx]),List.append_nil]
theorem EV (w:World) (t:Nat) (fr:Int) :
  Calls Tryz.prog 109 #[.pointer (some ⟨t,0,none⟩),.int .u64 fr] w fun e w' => e=.returned (.func (.func 150) #[] #[.pointer (some ⟨w.heap.size,0,none⟩),.pointer (some ⟨w.heap.size + 1,0,none⟩)])∧w'.heap[w.heap.size]?=some (.cells #[.pointer (some ⟨t,0,none⟩)] 24)∧w'.heap[w.heap.size + 1]?=some (.cells #[.int .u64 fr] 30)∧Below w.heap.size w w'∧w'.heap.size=w.heap.size + 2:=by
 obtain ⟨x0,hx0⟩:∃ x,w.alloc (.cells #[.pointer (some ⟨t,0,none⟩)] 24)=x:=⟨_,rfl⟩
 obtain ⟨x1,hx1⟩:∃ x,x0.alloc (.cells #[.int .u64 fr] 30)=x:=⟨_,rfl⟩
 obtain ⟨s0,m0,b0⟩:=bQ hx0 rfl;obtain ⟨s1,m1,b1⟩:=bQ hx1 s0;have FIN:Hid (x1.heap[w.heap.size]?=some (.cells #[.pointer (some ⟨t,0,none⟩)] 24)∧x1.heap[w.heap.size + 1]?=some (.cells #[.int .u64 fr] 30)∧Below w.heap.size w x1∧x1.heap.size=w.heap.size + 2):=Hd ⟨(b1.block _ (by omega)).trans m0,m1,b0.trans (b1.mono (by omega)),s1⟩;have S0:=Hd s0;clear s0 m0 b0 s1 m1 b1;go_enter Tryz.func109,Tryz.ntmps109;go_wp2_with fail;go_ret;rw [S0.out];exact ⟨rfl,FIN.out⟩
structure BoxN (w:World) (t:Nat) (kd fi fr:Int) (b1 b2 b3 b4:Nat):Prop where
 k:w.heap[b1]?=some (.cells #[.int .i64 kd] 3)
 f:w.heap[b2]?=some (.cells #[.int .i64 fi] 3)
 r:w.heap[b3]?=some (.cells #[.int .i64 fr] 3)
 t:w.heap[b4]?=some (.cells #[.pointer (some ⟨t,0,none⟩)] 24)
theorem BoxN.lt {w:World} {t:Nat} {kd fi fr:Int} {b1 b2 b3 b4:Nat} (h:BoxN w t kd fi fr b1 b2 b3 b4):b1 < w.heap.size∧b2 < w.heap.size∧b3 < w.heap.size∧b4 < w.heap.size:=⟨(zl h.k),(zl h.f),(zl h.r),(zl h.t)⟩
theorem BoxN.below {w w' : World} {t:Nat} {kd fi fr:Int} {b1 b2 b3 b4:Nat} (h:BoxN w t kd fi fr b1 b2 b3 b4) (hb:Below w.heap.size w w'):BoxN w' t kd fi fr b1 b2 b3 b4:=by
 obtain ⟨l1,l2,l3,l4⟩:=h.lt;exact ⟨(hb.block _ l1).trans h.k,(hb.block _ l2).trans h.f,(hb.block _ l3).trans h.r,(hb.block _ l4).trans h.t⟩
theorem EM (w:World) (t:Nat) (kd fi fr:Int) :
  Calls Tryz.prog 65 #[.pointer (some ⟨t,0,none⟩),.int .i64 kd,.int .i64 fi,.int .i64 fr] w fun e w' => e=.returned (.func (.func 133) #[] #[.pointer (some ⟨w.heap.size + 1,0,none⟩),.pointer (some ⟨w.heap.size + 2,0,none⟩),.pointer (some ⟨w.heap.size + 3,0,none⟩),.pointer (some ⟨w.heap.size,0,none⟩)])∧BoxN w' t kd fi fr (w.heap.size + 1) (w.heap.size + 2) (w.heap.size + 3) w.heap.size∧Below w.heap.size w w'∧w'.heap.size=w.heap.size + 4:=by
 obtain ⟨x0,hx0⟩:∃ x,w.alloc (.cells #[.pointer (some ⟨t,0,none⟩)] 24)=x:=⟨_,rfl⟩
 obtain ⟨x1,hx1⟩:∃ x,x0.alloc (.cells #[.int .i64 kd] 3)=x:=⟨_,rfl⟩
 obtain ⟨x2,hx2⟩:∃ x,x1.alloc (.cells #[.int .i64 fi] 3)=x:=⟨_,rfl⟩
 obtain ⟨x3,hx3⟩:∃ x,x2.alloc (.cells #[.int .i64 fr] 3)=x:=⟨_,rfl⟩
 obtain ⟨s0,m0,b0⟩:=bQ hx0 rfl;obtain ⟨s1,m1,b1⟩:=bQ hx1 s0;obtain ⟨s2,m2,b2⟩:=bQ hx2 s1;obtain ⟨s3,m3,b3⟩:=bQ hx3 s2
 have FIN:Hid (BoxN x3 t kd fi fr (w.heap.size + 1) (w.heap.size + 2) (w.heap.size + 3) w.heap.size∧Below w.heap.size w x3∧x3.heap.size=w.heap.size + 4):=Hd
  ⟨⟨(b3.block _ (by omega)).trans ((b2.block _ (by omega)).trans m1),(b3.block _ (by omega)).trans m2,m3,(b3.block _ (by omega)).trans ((b2.block _ (by omega)).trans ((b1.block _ (by omega)).trans m0))⟩,((b0.trans (b1.mono (by omega))).trans (b2.mono (by omega))).trans (b3.mono (by omega)),s3⟩
 have S0:=Hd (And.intro s0 (And.intro s1 s2));clear s0 m0 b0 s1 m1 b1 s2 m2 b2 s3 m3 b3;go_enter Tryz.func65,Tryz.ntmps65;go_wp2_with fail;go_ret;rw [S0.out.1,S0.out.2.1,S0.out.2.2];exact ⟨rfl,FIN.out⟩
def TM (e:Ent):Array Value:=#[.int .i64 (spB e.1),.string e.2]
def GN (w0:World) (F:Nat→Prop) (t b1 b2 b3 b4:Nat) (k:Nat):Prop:=F k∨k=t∨k=b1∨k=b2∨k=b3∨k=b4∨k < w0.heap.size
section
attribute [local go_sem] Oper.semAt_some
theorem EL {w0 w:World} {F:Nat→Prop} {t d s n b1 b2 b3 b4:Nat} {kd fi fr bg:Int} {E:List Ent} (h:TxF w0 F w t d s n E) (hE:E.length≤600) (hS:mZ E) (hK:∀ e∈E,0≤e.1∧e.1≤18446744073709551615) (hb:BoxN w t kd fi fr b1 b2 b3 b4)
  (hn:(¬ F b1∧b1≠t∧w0.heap.size≤b1)∧(¬ F b2∧b2≠t∧w0.heap.size≤b2)) (hko:gL kd fi fr=true) (hbg:dZ kd fi fr=bg) :
  qU Tryz.prog 133 #[.pointer (some ⟨b1,0,none⟩),.pointer (some ⟨b2,0,none⟩),.pointer (some ⟨b3,0,none⟩),.pointer (some ⟨b4,0,none⟩)] TM (GN w0 F t b1 b2 b3 b4) (fun W=>TxF w0 F W t d s n E) ((aQ bg E).takeWhile fun e=>jC e.1 kd fi) w:=by
 intro l J Jx W C hW hJ hJx hlt hltx hCG hR h0;have hTW:=h.below hW;have hbW:=hb.below hW;have lW:=hTW.lt;have lb:=hbW.lt;obtain ⟨y,hy⟩:∃ y,W.heap.size=y:=⟨_,rfl⟩
 obtain ⟨W1,hW1⟩:∃ W1,W.alloc (.cells #[.func (.yield l) #[] #[]] 173)=W1:=⟨_,rfl⟩
 obtain ⟨s1,m1,bW1⟩:=bQ hW1 hy;have hbW1:=hbW.below bW1;have hT1:=hTW.below bW1;have hbgr:=BF kd fi fr;rw [hbg] at hbgr;have KEY:=Hd (fun w=>by have:=BD kd fi fr w; rw [hko,hbg] at this; exact this);have c1:=(aJ hbW1.k).1;have c2:=(aJ hbW1.f).1;have c3:=(aJ hbW1.r).1;have c4:=(aJ hbW1.t).1;obtain ⟨Ks,hKs⟩:∃ Ks,aQ bg E=Ks:=⟨_,rfl⟩
 obtain ⟨Ys,hYs⟩:∃ Ys,Ks.takeWhile (fun e=>jC e.1 kd fi)=Ys:=⟨_,rfl⟩
 rw [hKs,hYs] at hR ⊢;have HYS:=Hd (And.intro hKs hYs);have HN:=Hd hn;have HSK:=Hd (And.intro hS (And.intro hK (And.intro hE hbgr)));have HBW:=Hd hbW1;have HT1:=Hd hT1;have HTW:=Hd hTW;have HLB:=Hd (And.intro lW lb);have HM1:=Hd (And.intro s1 (And.intro m1 bW1));have HSZ:=Hd hy;have J1:=Hd (hJ _ _ _ _ h0 (.of_frm (G:=fun _=>False) (Frm.of_below bW1) fun _ _ h=>h));have HC0:Hid (∀ k,C k→k < y):=Hd fun k hk=>by have:=hlt _ _ _ h0 k hk; omega
 have HCG:=Hd hCG;clear h hE hS hK hb hn hko hbg hTW hbW lW lb s1 m1 bW1 hbW1 hT1 hbgr hKs hYs hW h0 hCG;refine (callsIn_wide (n:=0)).1 (callsIn_of_wp_marks (F:=Fence.wide) (n:=0) Tryz.func133 rfl trivial (wpIn_wide.2 ?_) rfl);simp only [Tryz.ntmps133,List.size_toArray,List.length_cons,List.length_nil,Nat.reduceAdd,Nat.reduceSub,Array.replicate_succ,Array.replicate_zero,List.push_toArray,List.append_toArray,List.nil_append,List.cons_append];rw [hy];clear hy;go_upto_region 1 with fail
 try rw [hW1]
 clear hW1;go_wp2_with fail;refine (KEY.out _).mono ?_;rintro e w2 ⟨rfl,rfl⟩;clear KEY c1 c2 c3;go_wp2_with fail;refine (EV _ t bg).mono ?_;rintro e w3 ⟨rfl,m2,m3,q3,s3⟩;rw [HM1.out.1] at m2 m3 q3 s3 ⊢;clear c4;go_wp2_with fail;have hm1:=HM1.out;have hT3:=HT1.out.below (by rw [hm1.1]; exact q3);have hbN:=HBW.out.below (by rw [hm1.1]; exact q3);have my:w3.heap[y]?=some (.cells #[.func (.yield l) #[] #[]] 173):=(q3.block y (by omega)).trans hm1.2.1;have lF:=hT3.lt;have lW:=HLB.out.1;have lb:=HLB.out.2;have hSZ:=HSZ.out;have hnn:=HN.out
 have hit:=EU hT3 HSK.out.2.2.1 HSK.out.1 HSK.out.2.1 HSK.out.2.2.2 m2 m3 ⟨fun h=>by have:=lW.1 _ h; omega,fun h=>by have:=lW.1 _ h; omega,by omega,by omega,by omega⟩ ⟨by have:=HTW.out.from.size; omega,by have:=HTW.out.from.size; omega⟩;rw [HYS.out.1] at hit;obtain ⟨Y,hY⟩:∃ Y:List (Nat × Obj),Y=[(y,.cells #[.func (.yield l) #[] #[]] 173),(b1,.cells #[.int .i64 kd] 3),(b2,.cells #[.int .i64 fi] 3)]:=⟨_,rfl⟩
 have gY:∀ k,k∈Y.map (·.1) ↔ k=y∨k=b1∨k=b2:=fun k=>by rw [hY]; simp
 have yY:(y,Obj.cells #[.func (.yield l) #[] #[]] 173)∈Y:=by rw [hY]; simp
 have yK:(b1,Obj.cells #[.int .i64 kd] 3)∈Y:=by rw [hY]; simp
 have yF:(b2,Obj.cells #[.int .i64 fi] 3)∈Y:=by rw [hY]; simp
 have hJ3:=hJ _ _ _ _ J1.out (.of_frm (G:=fun _=>False) (Frm.of_below (by rw [hm1.1]; exact q3)) fun _ _ h=>h)
 have hnC:∀ k,k=y∨k=b1∨k=b2→¬ C k:=fun k hk hc=>by
  rcases hk with rfl | rfl | rfl
  ·have:=HC0.out _ hc; omega
  ·exact HCG.out _ hc (.inr (.inr (.inl rfl)))
  ·exact HCG.out _ hc (.inr (.inr (.inr (.inl rfl))))
 have hY3:∀ p∈Y,w3.heap[p.1]?=some p.2∧¬ C p.1:=fun p hp=>by
  refine ⟨?_,hnC _ ((gY _).1 (List.mem_map.2 ⟨p,hp,rfl⟩))⟩;rw [hY] at hp;simp only [List.mem_cons,List.not_mem_nil,or_false] at hp
  rcases hp with rfl | rfl | rfl
  ·exact my
  ·exact hbN.k
  ·exact hbN.f
 clear hY;have f13:Frm (fun _=>False) W w3:=(Frm.of_below (hm1.2.2)).trans (G:=fun _=>False) (Frm.of_below (by rw [hm1.1]; exact q3)) fun _ h=>h.elim
 have AFT:∀ (D:Nat) (C' C2:Nat→Prop) (Wz:World),w3.heap.size≤D→(∀ k,C' k ↔ C2 k∨k∈Y.map (·.1))→(∀ p∈Y,Wz.heap[p.1]?=some p.2∧¬ C2 p.1)→Frm (fun k=>(C k∨k∈Y.map (·.1))∨GK w0 F t (y + 1) (y + 1 + 1) k) w3 Wz→(∀ k,C' k→(C k∨k∈Y.map (·.1))∨w3.heap.size≤k)→¬ C' D→Wz.heap[D]?=some (.deferred (some []))→Frm (fun k=>C k∨GN w0 F t b1 b2 b3 b4 k) W Wz∧(∀ k,C2 k→C k∨W.heap.size≤k)∧Marks Wz [D]∧∀ D'∈[D],W.heap.size≤D'∧¬ C2 D' := by
  intro D C' C2 Wz hDz hDi hy2 hfr hC' hnD hdef;refine ⟨(f13.mono fun _ h=>h.elim).trans hfr fun k hk=>?_,fun k hk=>?_,(Marks.nil Wz).cons (by simp) hdef,fun D' hD' => ?_⟩
  ·rcases hk with (hk | hk) | hk
   ·exact .inl (.inl hk)
   ·rcases (gY k).1 hk with rfl | rfl | rfl
    ·exact .inr (by omega)
    ·exact .inl (.inr (.inr (.inr (.inl rfl))))
    ·exact .inl (.inr (.inr (.inr (.inr (.inl rfl)))))
   ·rcases hk with hk | rfl | rfl | rfl | hk
    ·exact .inl (.inr (.inl hk))
    ·exact .inl (.inr (.inr (.inl rfl)))
    ·exact .inr (by omega)
    ·exact .inr (by omega)
    ·exact .inl (.inr (.inr (.inr (.inr (.inr (.inr (.inr hk)))))))
  ·rcases hC' k ((hDi k).2 (.inl hk)) with (h1 | h1) | h1
   ·exact .inl h1
   ·obtain ⟨p,hp,rfl⟩:=List.mem_map.1 h1
    exact absurd hk (hy2 p hp).2
   ·exact .inr (by omega)
  ·obtain rfl:=List.mem_singleton.1 hD'
   exact ⟨by omega,fun hx=>hnD ((hDi _).2 (.inl hx))⟩
 refine (wpIn_wide (n:=0)).1 (lC rfl (enters_of Tryz.func150 (by kernel_rfl) rfl) hit (fun Wz lz o hz hv=>?_) (fun k hk=>?_) (by intro _; rfl) (fun k=>C k∨k∈Y.map (·.1)) (fun k hk hg=>?_) (fun pre D Wz=>pre <+: Ys∧IB J Y pre D Wz) (fun c pre D Wz=>c=.ret∧((pre <+: Ys∧IB Jx Y pre D Wz)∨IB J Y Ys D Wz)) (fun s D A B hh ho=>⟨hh.1,IB.on hJ s D A B hh.2 ho⟩) (fun c s D A B hh ho=>⟨hh.1,hh.2.imp (fun g=>⟨g.1,IB.on hJx s D A B g.2 ho⟩) (fun g=>IB.on hJ _ D A B g ho)⟩) (fun s D A hh=>IB.lt hlt s D A hh.2) (fun c s D A hh=>hh.2.elim (fun g=>IB.lt hltx s D A g.2) (fun g=>IB.lt hlt _ D A g)) ⟨List.nil_prefix,C,fun _=>Iff.rfl,hJ3,hY3⟩ ?_ ?_ ?_)
 ·exact hv.frm (bH Wz lz o) fun k hk=>by subst hk; exact ⟨fun e=>by have:=lF.1 _ e; omega,by omega,by have:=hT3.from.size; omega⟩
 ·rcases hk with hk | rfl | rfl | rfl | hk
  ·exact lF.1 _ hk
  ·exact lF.2.1
  ·omega
  ·omega
  ·have:=hT3.from.size; omega
 ·have h1:¬ F y∧y≠t∧w0.heap.size≤y:=⟨fun e=>by have:=lW.1 _ e; omega,by omega,by have:=HTW.out.from.size; omega⟩
  rcases hk with hk | hk
  ·rcases hg with hg | rfl | rfl | rfl | hg
   ·exact HCG.out _ hk (.inl hg)
   ·exact HCG.out _ hk (.inr (.inl rfl))
   ·have:=HC0.out _ hk; omega
   ·have:=HC0.out _ hk; omega
   ·exact HCG.out _ hk (.inr (.inr (.inr (.inr (.inr (.inr hg))))))
  ·rcases (gY k).1 hk with rfl | rfl | rfl
   ·rcases hg with hg | hg | hg | hg | hg
    ·exact h1.1 hg
    ·exact h1.2.1 hg
    ·omega
    ·omega
    ·omega
   ·rcases hg with hg | hg | hg | hg | hg
    ·exact hnn.1.1 hg
    ·exact hnn.1.2.1 hg
    ·omega
    ·omega
    ·omega
   ·rcases hg with hg | hg | hg | hg | hg
    ·exact hnn.2.1 hg
    ·exact hnn.2.2.1 hg
    ·omega
    ·omega
    ·omega
 ·intro l' pre x D Wz hpre hI hD hz hnl hll
  obtain ⟨xk,xv⟩:=x
  have hxE:(xk,xv)∈E:=by
   have h1:(xk,xv)∈Ks:=hpre.subset (by simp);rw [← HYS.out.1] at h1;exact (List.mem_filter.1 h1).1
  have hxr:=HSK.out.2.1 _ hxE;have hTW2:=NO (p:=fun e:Ent=>jC e.1 kd fi) hpre (by rw [HYS.out.2]; exact hI.1);rw [HYS.out.2] at hTW2;unfold TN;gi_wp2;refine ⟨Br,fun Wb hfb hIb=>?_⟩;obtain ⟨C2,hDi,hjb,hyY⟩:IB J Y pre D Wb:=by first | exact hIb.2 | exact hIb
  have k1:=(aJ (hyY _ yK).1).1;have k2:=(aJ (hyY _ yF).1).1;have k0:=(aJ (hyY _ yY).1).1;have SP:=Hd (rP xk Wb hxr.1 hxr.2);obtain ⟨ib,hib⟩:∃ ib,jC xk kd fi=ib:=⟨_,rfl⟩
  have IK:=Hd (by have:=SW xk kd fi Wb hxr.1 hxr.2; rw [hib] at this; exact this);have HXR:=Hd hxr;have HT2:=Hd hTW2;have HIB:=Hd hib;clear hxr hTW2 hib hxE
  cases ib
  ·gi_wp2_with fail
   refine ⟨trivial,rfl,?_⟩;refine (CallsIn.inRound l' (callsIn_wide.2 SP.out)).mono ?_;rintro e w8 ⟨rfl,rfl⟩
   gi_wp2_with fail
   refine ⟨trivial,rfl,?_⟩;refine (CallsIn.inRound l' (callsIn_wide.2 IK.out)).mono ?_;rintro e w8 ⟨rfl,rfl⟩
   gi_wp2_with fail
   refine ⟨fun _ h=>(by cases h),?_⟩
   gi_wp2_with fail
   have e1:=HT2.out.2 HIB.out;exact ⟨D,Own1.refl _ _,rfl,.inr (by rw [e1]; exact IB.same hDi hyY hjb)⟩
  ·have hp2:=HT2.out.1 HIB.out
   obtain ⟨fn2,tmps2,assign2,body2,hyl2,hRR2⟩:=hR pre (xk,xv) C2 Wb hp2 hjb;unfold TM at hyl2
   gi_wp2_with fail
   refine ⟨trivial,rfl,?_⟩;refine (CallsIn.inRound l' (callsIn_wide.2 SP.out)).mono ?_;rintro e w8 ⟨rfl,rfl⟩
   gi_wp2_with fail
   refine ⟨trivial,rfl,?_⟩;refine (CallsIn.inRound l' (callsIn_wide.2 IK.out)).mono ?_;rintro e w8 ⟨rfl,rfl⟩
   gi_wp2_with fail
   refine ⟨rfl,?_⟩;refine hRR2.mono ?_;rintro e w8 ⟨C8,ho8,(⟨rfl,hj8⟩ | ⟨rfl,hj8⟩)⟩
   ·gi_wp2
    obtain ⟨D', hD1,hD2⟩:=IB.next hDi hyY ho8 hj8;exact ⟨D', hD1,hp2,hD2⟩
   ·gi_wp2
    obtain ⟨D', hD1,hD2⟩:=IB.next hDi hyY ho8 hj8;exact ⟨D', hD1,rfl,.inl ⟨hp2,hD2⟩⟩
 ·intro D C' Wz hDz hI hV hfr hC' hnD hdef
  obtain ⟨hpY,C2,hDi,hj2,hy2⟩:=hI;obtain ⟨g1,g2,g3,g4⟩:=AFT D C' C2 Wz hDz hDi hy2 hfr hC' hnD hdef
  have hYK:Ys=Ks:=by
   have h1:Ys <+: Ks:=by rw [← HYS.out.2]; exact List.takeWhile_prefix _
   exact h1.eq_of_length (Nat.le_antisymm h1.length_le hpY.length_le)
  have HJ9:Hid (J Ys C2 Wz):=Hd (hYK ▸ hj2);clear hit hfr hC' hDi hYK hj2 hpY;go_wp2_with fail;exact MM (P:=Tryz.prog) (Ys:=Ys) rfl hJ hJx g1 g2 hV HTW.out [D] g3 g4 (.inl HJ9.out) HSZ.out
 ·rintro D c pre C' Wz hDz hpre ⟨rfl,hI⟩ hV hfr hC' hnD hdef
  refine wpIn_wide.2 ?_
  rcases hI with ⟨hpY,C2,hDi,hj2,hy2⟩ | ⟨C2,hDi,hj2,hy2⟩
  ·obtain ⟨g1,g2,g3,g4⟩:=AFT D C' C2 Wz hDz hDi hy2 hfr hC' hnD hdef
   go_wp2_with fail;exact MM (P:=Tryz.prog) (Ys:=Ys) rfl hJ hJx g1 g2 hV HTW.out [D] g3 g4 (.inr ⟨pre,hpY,hj2⟩) HSZ.out
  ·obtain ⟨g1,g2,g3,g4⟩:=AFT D C' C2 Wz hDz hDi hy2 hfr hC' hnD hdef
   go_wp2_with fail;exact MM (P:=Tryz.prog) (Ys:=Ys) rfl hJ hJx g1 g2 hV HTW.out [D] g3 g4 (.inl hj2) HSZ.out
end



def dR (l:List UInt8):Nat:=(Lib.decodeL l).1
def dW (l:List UInt8):Nat:=(Lib.decodeL l).2
def rsF:Nat→List UInt8→List Nat
 | 0,_=>[]
 | f + 1,l=>if l=[] then [] else dR l :: rsF f (l.drop (dW l))
def rs (l:List UInt8):List Nat:=rsF l.length l
def sW (s:ByteArray) (pos:Nat):Nat:=dW (s.data.toList.drop pos)




end Go.Proofs.YtblbiihpfjjhhaaGreatDoor
