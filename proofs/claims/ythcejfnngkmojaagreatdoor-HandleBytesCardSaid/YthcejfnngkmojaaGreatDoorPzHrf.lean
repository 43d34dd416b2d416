/-
 Hrf.
-/
import Derived.Test.YthcejfnngkmojaaGreatDoorP19
import Derived.Test.YthcejfnngkmojaaGreatDoorPzRefPT
import Derived.Test.YthcejfnngkmojaaGreatDoorPzRefMacS
namespace Go.Proofs.YthcejfnngkmojaaGreatDoor
open Go Go.RowKit
set_option maxRecDepth 20000
set_option maxHeartbeats 12800000
set_option linter.unusedVariables false
set_option linter.unusedSimpArgs false
theorem qY (n size:Int) (x:ByteArray) (w:World) (h0:0≤n) (hm:n≤18446744073709551615) (hx:Str (aL n size)=x) :
  Calls Tryz.prog 109 #[.int .u64 n,.int .i64 size] w fun e w' => e=.returned (.string x)∧Below w.heap.size w w' := by
 have HX:=Hd hx;clear hx;go_enter Tryz.func109,Tryz.ntmps109;go_wp2_with fail;refine (FP _ _ _ h0 hm).mono ?_;rw [HX.out];rintro e w1 ⟨rfl,b1⟩;go_wp2_with fail;go_ret;exact ⟨rfl,b1⟩
theorem sO (s ep nn k:Int) (v:ByteArray) (w:World) (hk:fF s ep k=true) (n0:0≤nn) (n1:nn≤18446744073709551615) (hv:hB s ep nn k=v) :
  Calls Tryz.prog 67 #[.agg #[.int .i64 s,.int .i64 ep,.int .u64 nn,.int .i64 k]] w fun e w' => e=.returned (.tuple #[.string v,.bool true])∧Below w.heap.size w w' := by
 have hi:=wY hk;obtain ⟨p0,p1,p2,p3⟩:=wZ hk n0 n1;have g0:=cF p0.1;have g1:=cF p1.1;have g2:=cF p2.1;have g3:=cF p3.1;unfold hB at hv;obtain ⟨x,hx⟩:∃ x,Str (aL s 2)=x:=⟨_,rfl⟩
 obtain ⟨y,hy⟩:∃ x,Str (aL ep 1)=x:=⟨_,rfl⟩
 obtain ⟨z,hz⟩:∃ x,Str (aL nn 8)=x:=⟨_,rfl⟩
 obtain ⟨u,hu⟩:∃ x,Str (aL k 2)=x:=⟨_,rfl⟩
 rw [hx,hy,hz,hu] at hv;rw [hx] at g0;rw [hy] at g1;rw [hz] at g2;rw [hu] at g3;have Hx:=Hd hx;have Hy:=Hd hy;have Hz:=Hd hz;have Hq:=Hd hu;have HV:=Hd hv;have e1:IntKind.u64.wrap s=s:=IntWalk.u64_in _ (by omega);have e2:IntKind.u64.wrap ep=ep:=IntWalk.u64_in _ (by omega);have e3:IntKind.u64.wrap k=k:=IntWalk.u64_in _ (by omega);have s1:(9223372036854775807 < x.size + y.size)=False:=by rw [eq_iff_iff,iff_false]; omega
 have s2:(9223372036854775807 < x.size + y.size + z.size)=False:=by rw [eq_iff_iff,iff_false]; omega
 have s3:(9223372036854775807 < x.size + y.size + z.size + u.size)=False:=by rw [eq_iff_iff,iff_false]; omega
 have t1:(x ++ y).size=x.size + y.size:=ByteArray.size_append;have t2:(x ++ y ++ z).size=x.size + y.size + z.size:=by rw [ByteArray.size_append,t1]
 obtain ⟨x1,hx1⟩:∃ x1,w.alloc (.cells #[.int .i64 s,.int .i64 ep,.int .u64 nn,.int .i64 k] 48)=x1:=⟨_,rfl⟩
 obtain ⟨q1,q2,q3⟩:=aV hx1 rfl;have HC:Hid (∀ w', Below x1.heap.size x1 w'→w'.heap[w.heap.size]?=some (.cells #[.int .i64 s,.int .i64 ep,.int .u64 nn,.int .i64 k] 48)):=Hd fun w' hb=>bG q2 hb
 have HB:Hid (∀ w', Below x1.heap.size x1 w'→Below w.heap.size w w'):=Hd fun w' hb=>q3.trans (hb.mono (by omega))
 have X1:=Hd hx1;have S0:=Hd (Below.refl x1.heap.size x1).drew;have hi0:0≤s:=by omega
 have hi1:0≤ep:=by omega
 have hi3:0≤k:=by omega
 have j1:¬ s < 1:=by omega
 have j2:¬ 200 < s:=by omega
 have j3:¬ ep < 1:=by omega
 have j4:¬ 15 < ep:=by omega
 have j5:¬ k < 1:=by omega
 have j6:¬ 65535 < k:=by omega
 obtain ⟨⟨c0,c1,c2,c3⟩,_⟩:=aG q2;clear hx hy hz hu hk p0 p1 p2 p3 hv g0 g1 g2 g3 q1 q2 q3 hx1;go_enter Tryz.func67,Tryz.ntmps67;go_upto_region 1 with fail
 rw [X1.out];go_upto_region 3 with fail
 clear c0 c1 c2 c3 j1 j2 j3 j4 j5 j6;refine wp_region_held_drew (S:=fun w' => Below x1.heap.size x1 w') (by kernel_rfl) S0.out (fun hS=>?_);refine Hu 0 32 hS ?_;simp only [SL];refine Hv 1 33 ?va1x2 hS ?ha1x2 ?_
 case ha1x2 =>
  intro w9 s9;have k9:=HC.out _ s9;obtain ⟨⟨q0,q1,q2,q3⟩,_⟩:=aG k9;clear s9;go_simp;try (with_reducible rfl)
 simp only [SL];refine Hu 2 34 hS ?_;simp only [SL];refine Hu 4 36 hS ?_;simp only [SL];refine Hv 5 37 ?va5x5 hS ?ha5x5 ?_
 case ha5x5 =>
  intro w9 s9;have k9:=HC.out _ s9;obtain ⟨⟨q0,q1,q2,q3⟩,_⟩:=aG k9;clear s9;go_simp;try (with_reducible rfl)
 simp only [SL];refine Hu 6 38 hS ?_;simp only [SL];refine Hu 9 41 hS ?_;simp only [SL];refine Hv 10 42 ?va10x8 hS ?ha10x8 ?_
 case ha10x8 =>
  intro w9 s9;have k9:=HC.out _ s9;obtain ⟨⟨q0,q1,q2,q3⟩,_⟩:=aG k9;clear s9;go_simp;try (with_reducible rfl)
 simp only [SL];refine Hu 13 45 hS ?_;simp only [SL];refine Hv 14 46 ?va14x10 hS ?ha14x10 ?_
 case ha14x10 =>
  intro w9 s9;have k9:=HC.out _ s9;obtain ⟨⟨q0,q1,q2,q3⟩,_⟩:=aG k9;clear s9;go_simp;try (with_reducible rfl)
 simp only [SL];refine Hu 15 47 hS ?_;simp only [SL];refine Hs 3 (fun K HK=>?_);go_simp;go_wp2_with fail;refine (qY _ _ x _ (by omega) (by omega) Hx.out).mono ?_;rintro e w6 ⟨rfl,b6⟩;refine HK.out _ _ ?_ ?_
 ·exact chain hS b6
 clear HK K;try simp only [Act.put,SL]
 have hS9:=chain hS b6;clear hS b6;have hS:=hS9;clear hS9;refine Hs 7 (fun K HK=>?_);go_simp;go_wp2_with fail;refine (qY _ _ y _ (by omega) (by omega) Hy.out).mono ?_;rintro e w6 ⟨rfl,b6⟩;refine HK.out _ _ ?_ ?_
 ·exact chain hS b6
 clear HK K;try simp only [Act.put,SL]
 have hS9:=chain hS b6;clear hS b6;have hS:=hS9;clear hS9;refine Hu 8 40 hS ?_;simp only [SL];refine Hs 11 (fun K HK=>?_);go_simp;go_wp2_with fail;refine (qY _ _ z _ (by omega) (by omega) Hz.out).mono ?_;rintro e w6 ⟨rfl,b6⟩;refine HK.out _ _ ?_ ?_
 ·exact chain hS b6
 clear HK K;try simp only [Act.put,SL]
 have hS9:=chain hS b6;clear hS b6;have hS:=hS9;clear hS9;refine Hu 12 44 hS ?_;simp only [SL];refine Hs 16 (fun K HK=>?_);go_simp;go_wp2_with fail;refine (qY _ _ u _ (by omega) (by omega) Hq.out).mono ?_;rintro e w6 ⟨rfl,b6⟩;refine HK.out _ _ ?_ ?_
 ·exact chain hS b6
 clear HK K;try simp only [Act.put,SL]
 have hS9:=chain hS b6;clear hS b6;have hS:=hS9;clear hS9;refine Hu 17 49 hS ?_;simp only [SL];refine Hu 18 2 hS ?_;simp only [SL];refine Hu 19 3 hS ?_;simp only [SL];refine wpAnyH_done (by kernel_rfl) ?_ _;have FIN:=HB.out _ hS;clear hS;have FIN:=Hd FIN;go_wp2_with fail;go_ret2;exact ⟨by rw [← HV.out]; rfl,FIN.out⟩
theorem sN (s ep nn k:Int) (w:World) (hk:fF s ep k=false) :
  Calls Tryz.prog 67 #[.agg #[.int .i64 s,.int .i64 ep,.int .u64 nn,.int .i64 k]] w fun e w' => e=.returned (.tuple #[.string ⟨#[]⟩,.bool false])∧Below w.heap.size w w' := by
 have hi:s < 1∨(¬ s < 1∧200 < s)∨(¬ s < 1∧¬ 200 < s∧ep < 1)∨(¬ s < 1∧¬ 200 < s∧¬ ep < 1∧15 < ep)∨(¬ s < 1∧¬ 200 < s∧¬ ep < 1∧¬ 15 < ep∧k < 1)∨(¬ s < 1∧¬ 200 < s∧¬ ep < 1∧¬ 15 < ep∧¬ k < 1∧65535 < k):=by
  by_cases h:s < 1∨200 < s∨ep < 1∨15 < ep∨k < 1∨65535 < k
  ·omega
  ·exfalso
   have:fF s ep k=true:=by unfold fF; simp only [inB,Bool.and_eq_true,decide_eq_true_eq]; omega
   rw [this] at hk
   cases hk
 clear hk;obtain ⟨x1,hx1⟩:∃ x1,w.alloc (.cells #[.int .i64 s,.int .i64 ep,.int .u64 nn,.int .i64 k] 48)=x1:=⟨_,rfl⟩
 obtain ⟨q1,q2,q3⟩:=aV hx1 rfl;obtain ⟨⟨c0,c1,c2,c3⟩,_⟩:=aG q2;have X1:=Hd hx1;have Q3:=Hd q3;clear hx1 q1 q2 q3
 rcases hi with h | ⟨h1,h⟩ | ⟨h1,h2,h⟩ | ⟨h1,h2,h3,h⟩ | ⟨h1,h2,h3,h4,h⟩ | ⟨h1,h2,h3,h4,h5,h⟩
 all_goals
  go_enter Tryz.func67,Tryz.ntmps67;go_upto_region 1 with fail
  rw [X1.out];go_wp2_with fail;go_ret2;exact ⟨rfl,Q3.out⟩
theorem ZR (s ep nn k:Int) (key:ByteArray) (w:World) (hk:fF s ep k=false) :
  Calls Tryz.prog 27 #[.agg #[.int .i64 s,.int .i64 ep,.int .u64 nn,.int .i64 k],.string key] w fun e w' => e=.returned (.tuple #[.string ⟨#[]⟩,.bool false])∧Below w.heap.size w w' := by
 have RG:=Hd (fun w=>sN s ep nn k w hk);clear hk;obtain ⟨x1,hx1⟩:∃ x1,w.alloc (.cells #[.int .i64 s,.int .i64 ep,.int .u64 nn,.int .i64 k] 48)=x1:=⟨_,rfl⟩
 obtain ⟨q1,q2,q3⟩:=aV hx1 rfl;obtain ⟨⟨c0,c1,c2,c3⟩,_⟩:=aG q2;have X1:=Hd hx1;have Q3:=Hd q3;clear hx1 q1 q2 q3;go_enter Tryz.func27,Tryz.ntmps27;go_upto_region 1 with fail
 rw [X1.out];go_wp2_with fail;refine (RG.out _).mono ?_;rintro e w2 ⟨rfl,b2⟩;have B2:=Hd (chain Q3.out b2);clear b2 c0 c1 c2 c3;go_wp2_with fail;go_ret2;exact ⟨rfl,B2.out⟩
theorem UG (s ep nn k:Int) (key v:ByteArray) (w:World) (hk:fF s ep k=true) (n0:0≤nn) (n1:nn≤18446744073709551615) (hkey:key.size≤100) (hv:cM s ep nn k key=v) :
  Calls Tryz.prog 27 #[.agg #[.int .i64 s,.int .i64 ep,.int .u64 nn,.int .i64 k],.string key] w fun e w' => e=.returned (.tuple #[.string v,.bool true])∧Below w.heap.size w w' := by
 have hb:=oT hk n0 n1;obtain ⟨b,hbb⟩:∃ b,hB s ep nn k=b:=⟨_,rfl⟩
 have BG:=Hd (fun w=>sO s ep nn k b w hk n0 n1 hbb);unfold cM at hv;rw [hbb] at hv hb;obtain ⟨g,hg⟩:∃ g,lC key b=g:=⟨_,rfl⟩
 have hgs:=lZ key b;rw [hg] at hv hgs;have TG:=Hd (fun w=>by have:=uZ key b w (by omega) (by omega); unfold lC at hg; rw [hg] at this; exact this);have HV:=Hd hv;have s1:(9223372036854775807 < b.size + g.size)=False:=by rw [eq_iff_iff,iff_false]; omega
 clear hk n0 n1 hkey hv hbb hg hb hgs;obtain ⟨x1,hx1⟩:∃ x1,w.alloc (.cells #[.int .i64 s,.int .i64 ep,.int .u64 nn,.int .i64 k] 48)=x1:=⟨_,rfl⟩
 obtain ⟨q1,q2,q3⟩:=aV hx1 rfl;obtain ⟨⟨c0,c1,c2,c3⟩,_⟩:=aG q2;have X1:=Hd hx1;have Q3:=Hd q3;clear hx1 q1 q2 q3;go_enter Tryz.func27,Tryz.ntmps27;go_upto_region 1 with fail
 rw [X1.out];go_wp2_with fail;refine (BG.out _).mono ?_;rintro e w3 ⟨rfl,b3⟩;have B3:=Hd (chain Q3.out b3);clear b3 c0 c1 c2 c3;go_wp2_with fail;refine (TG.out _).mono ?_;rintro e w4 ⟨rfl,b4⟩;have B4:=Hd (chain B3.out b4);clear b4;go_wp2_with fail;go_ret2;exact ⟨by rw [← HV.out]; rfl,B4.out⟩
theorem sM (s ep nn k:Int) (tag key:ByteArray) (v:Bool) (w:World) (hk:fF s ep k=true) (n0:0≤nn) (n1:nn≤18446744073709551615) (hkey:key.size≤100) (hv:decide (tag=lC key (hB s ep nn k))=v) :
  Calls Tryz.prog 31 #[.agg #[.int .i64 s,.int .i64 ep,.int .u64 nn,.int .i64 k],.string tag,.string key] w fun e w' => e=.returned (.bool v)∧Below w.heap.size w w' := by
 have hb:=oT hk n0 n1;obtain ⟨b,hbb⟩:∃ b,hB s ep nn k=b:=⟨_,rfl⟩
 have BG:=Hd (fun w=>sO s ep nn k b w hk n0 n1 hbb);rw [hbb] at hv hb;obtain ⟨g,hg⟩:∃ g,lC key b=g:=⟨_,rfl⟩
 rw [hg] at hv;have TG:=Hd (fun w=>by have:=uZ key b w (by omega) (by omega); unfold lC at hg; rw [hg] at this; exact this);have HV:Hid (decide (tag=g)=v):=Hd hv;clear hk n0 n1 hkey hv hbb hg hb;obtain ⟨x1,hx1⟩:∃ x1,w.alloc (.cells #[.int .i64 s,.int .i64 ep,.int .u64 nn,.int .i64 k] 48)=x1:=⟨_,rfl⟩
 obtain ⟨q1,q2,q3⟩:=aV hx1 rfl;obtain ⟨⟨c0,c1,c2,c3⟩,_⟩:=aG q2;have X1:=Hd hx1;have Q3:=Hd q3;clear hx1 q1 q2 q3;go_enter Tryz.func31,Tryz.ntmps31;go_upto_region 1 with fail
 rw [X1.out];go_wp2_with fail;refine (BG.out _).mono ?_;rintro e w3 ⟨rfl,b3⟩;have B3:=Hd (chain Q3.out b3);clear b3 c0 c1 c2 c3;go_wp2_with fail;refine (TG.out _).mono ?_;rintro e w4 ⟨rfl,b4⟩;have B4:=Hd (chain B3.out b4);clear b4;go_wp2_with fail;go_ret;exact ⟨bS (by rw [← HV.out,Bool.eq_iff_iff]; simp only [decide_eq_true_eq,beq_iff_eq]; rw [sY]; exact eq_comm),B4.out⟩
theorem vC (s ep nn k:Int) (tag key:ByteArray) (w:World) (hk:fF s ep k=false) :
  Calls Tryz.prog 31 #[.agg #[.int .i64 s,.int .i64 ep,.int .u64 nn,.int .i64 k],.string tag,.string key] w fun e w' => e=.returned (.bool false)∧Below w.heap.size w w' := by
 have RG:=Hd (fun w=>sN s ep nn k w hk);clear hk;obtain ⟨x1,hx1⟩:∃ x1,w.alloc (.cells #[.int .i64 s,.int .i64 ep,.int .u64 nn,.int .i64 k] 48)=x1:=⟨_,rfl⟩
 obtain ⟨q1,q2,q3⟩:=aV hx1 rfl;obtain ⟨⟨c0,c1,c2,c3⟩,_⟩:=aG q2;have X1:=Hd hx1;have Q3:=Hd q3;clear hx1 q1 q2 q3;go_enter Tryz.func31,Tryz.ntmps31;go_upto_region 1 with fail
 rw [X1.out];go_wp2_with fail;refine (RG.out _).mono ?_;rintro e w2 ⟨rfl,b2⟩;have B2:=Hd (chain Q3.out b2);clear b2 c0 c1 c2 c3;go_wp2_with fail;go_ret;exact ⟨rfl,B2.out⟩
theorem EV (s:ByteArray) (vs ve vn vk:Int) (r1 r2 r3 r4:ByteArray) (w:World) (hs:s.size=29) (hvs:hfS s=vs) (hve:hfE s=ve) (hvn:hfN s=vn) (hvk:hfK s=vk) (hr1' : hr1 s=r1) (hr2' : hr2 s=r2) (hr3' : hr3 s=r3) (hr4' : hr4 s=r4) (hok:fF vs ve vk=false) :
  Calls Tryz.prog 29 #[.string s] w fun e w' => e=.returned (.tuple #[.agg #[.int .i64 0,.int .i64 0,.int .u64 0,.int .i64 0],.string ⟨#[]⟩,.bool false])∧Below w.heap.size w w' := by
 obtain ⟨⟨l1,l2⟩,⟨l3,l4⟩,⟨l5,l6⟩,⟨l7,l8⟩⟩:=jZ s;rw [hvs] at l1 l2;rw [hve] at l3 l4;rw [hvn] at l5 l6;rw [hvk] at l7 l8;have c1:IntKind.i64.wrap vs=vs:=IntWalk.i64_in _ (by omega);have c2:IntKind.i64.wrap ve=ve:=IntWalk.i64_in _ (by omega);have c3:IntKind.i64.wrap vk=vk:=IntWalk.i64_in _ (by omega);have RG:=Hd (fun w=>sN vs ve vn vk w hok);unfold hfS at hvs;unfold hr1 at hr1';unfold hfE hr1 at hve;unfold hr2 hr1 at hr2';unfold hfN hr2 hr1 at hvn;unfold hr3 hr2 hr1 at hr3';unfold hfK hr3 hr2 hr1 at hvk;unfold hr4 hr3 hr2 hr1 at hr4'
 have T1:=Hd (fun w=>by have:=dK s 2 w; rw [show aC s 2=vs from hvs,show aA s 2=r1 from hr1'] at this; exact this);have T2:=Hd (fun w=>by have:=dK r1 1 w; rw [← hr1', show aC (aA s 2) 1=ve from hve,show aA (aA s 2) 1=r2 from hr2', hr1'] at this; exact this);have T3:=Hd (fun w=>by have:=dK r2 8 w; rw [← hr2', show aC (aA (aA s 2) 1) 8=vn from hvn,show aA (aA (aA s 2) 1) 8=r3 from hr3', hr2'] at this; exact this)
 have T4:=Hd (fun w=>by have:=dK r3 2 w; rw [← hr3', show aC (aA (aA (aA s 2) 1) 8) 2=vk from hvk,show aA (aA (aA (aA s 2) 1) 8) 2=r4 from hr4', hr3'] at this; exact this);have e29:(s.size:Int)=29:=by omega
 obtain ⟨r,hr⟩:∃ r,w.heap.size=r:=⟨_,rfl⟩
 obtain ⟨x1,hx1⟩:∃ x1,w.alloc (.cells #[.int .i64 0,.int .i64 0,.int .u64 0,.int .i64 0] 48)=x1:=⟨_,rfl⟩
 obtain ⟨q1,q2,q3⟩:=aV hx1 hr;have X1:=Hd hx1;have HR:Hid (w.heap.size≤r):=Hd (by omega);have Q2:=Hd q2;have Q3:=Hd q3;clear hx1 q1 q2 q3;clear hs hvs hve hvn hvk hr1' hr2' hr3' hr4' hok l1 l2 l3 l4 l5 l6 l7 l8;go_enter Tryz.func29,Tryz.ntmps29;go_upto_region 1 with fail
 rw [X1.out];go_wp2_with fail;refine (T1.out _).mono ?_;rintro e w2 ⟨rfl,b2⟩;go_wp2_with fail;refine (T2.out _).mono ?_;rintro e w3 ⟨rfl,b3⟩;go_wp2_with fail;refine (T3.out _).mono ?_;rintro e w4 ⟨rfl,b4⟩;go_wp2_with fail;refine (T4.out _).mono ?_;rintro e w5 ⟨rfl,b5⟩;have m5:=Hd (bG (bG (bG (bG Q2.out b2) b3) b4) b5);have B5:=Hd (chain (chain (chain (chain Q3.out b2) b3) b4) b5);clear b2 b3 b4 b5 T1 T2 T3 T4;obtain ⟨t,ht⟩:∃ t,w5.heap.size=t:=⟨_,rfl⟩
 obtain ⟨x6,hx6⟩:∃ x6,w5.alloc (.cells #[.int .i64 vs,.int .i64 ve,.int .u64 vn,.int .i64 vk] 48)=x6:=⟨_,rfl⟩
 obtain ⟨q1,q2,q3⟩:=aV hx6 ht;have X6:=Hd hx6;have m6:=Hd (bG m5.out q3);have B6:=Hd (chain B5.out q3);have G6:=Hd q2;obtain ⟨⟨y0,y1,y2,y3⟩,u0,u1,u2,u3⟩:=aG q2;clear hx6 q1 q2 q3 m5 B5;go_upto_region 8 with fail
 rw [X6.out];go_wp2_with fail;refine (RG.out _).mono ?_;rintro e w7 ⟨rfl,b7⟩;have m7:=bG m6.out b7;have t7:=Hd (bG G6.out b7);have B7:=Hd (chain B6.out b7);clear y0 y1 y2 y3 u0 u1 u2 u3 b7;obtain ⟨n1,n2⟩:=set4 m7 (.int .i64 0) (.int .i64 0) (.int .u64 0) (.int .i64 0);obtain ⟨⟨y0,y1,y2,y3⟩,u0,u1,u2,u3⟩:=aG m7
 have FIN:Hid ((st4 w7 r (.int .i64 0) (.int .i64 0) (.int .u64 0) (.int .i64 0)).heap[r]?=some (.cells #[.int .i64 0,.int .i64 0,.int .u64 0,.int .i64 0] 48)∧Below w.heap.size w (st4 w7 r (.int .i64 0) (.int .i64 0) (.int .u64 0) (.int .i64 0))):=Hd ⟨n1,B7.out.trans (n2.below (fun k hk=>by rw [hk]; exact HR.out) B7.out.size)⟩;unfold st4 at FIN;clear n1 n2 m7;go_wp2_with fail
 exact bodyPost_ret (v:=.tuple #[.agg #[.int .i64 0,.int .i64 0,.int .u64 0,.int .i64 0],.string ⟨#[]⟩,.bool false]) (cJ (fn:=Tryz.f29) rfl _ _ r 48 _ (0,0) _ _ _ rfl rfl rfl FIN.out.1 Tryz.underlying48 rfl fG) rfl ⟨rfl,FIN.out.2⟩
theorem zJ (s:ByteArray) (vs ve vn vk:Int) (r1 r2 r3 r4:ByteArray) (w:World) (hs:s.size=29) (hvs:hfS s=vs) (hve:hfE s=ve) (hvn:hfN s=vn) (hvk:hfK s=vk) (hr1' : hr1 s=r1) (hr2' : hr2 s=r2) (hr3' : hr3 s=r3) (hr4' : hr4 s=r4) (hok:fF vs ve vk=true) :
  Calls Tryz.prog 29 #[.string s] w fun e w' => e=.returned (.tuple #[.agg #[.int .i64 vs,.int .i64 ve,.int .u64 vn,.int .i64 vk],.string r4,.bool true])∧Below w.heap.size w w' := by
 obtain ⟨⟨l1,l2⟩,⟨l3,l4⟩,⟨l5,l6⟩,⟨l7,l8⟩⟩:=jZ s;rw [hvs] at l1 l2;rw [hve] at l3 l4;rw [hvn] at l5 l6;rw [hvk] at l7 l8;have c1:IntKind.i64.wrap vs=vs:=IntWalk.i64_in _ (by omega);have c2:IntKind.i64.wrap ve=ve:=IntWalk.i64_in _ (by omega);have c3:IntKind.i64.wrap vk=vk:=IntWalk.i64_in _ (by omega);have RG:=Hd (fun w=>sO vs ve vn vk _ w hok (by omega) (by omega) rfl);unfold hfS at hvs;unfold hr1 at hr1';unfold hfE hr1 at hve;unfold hr2 hr1 at hr2';unfold hfN hr2 hr1 at hvn;unfold hr3 hr2 hr1 at hr3';unfold hfK hr3 hr2 hr1 at hvk
 unfold hr4 hr3 hr2 hr1 at hr4';have T1:=Hd (fun w=>by have:=dK s 2 w; rw [show aC s 2=vs from hvs,show aA s 2=r1 from hr1'] at this; exact this);have T2:=Hd (fun w=>by have:=dK r1 1 w; rw [← hr1', show aC (aA s 2) 1=ve from hve,show aA (aA s 2) 1=r2 from hr2', hr1'] at this; exact this);have T3:=Hd (fun w=>by have:=dK r2 8 w; rw [← hr2', show aC (aA (aA s 2) 1) 8=vn from hvn,show aA (aA (aA s 2) 1) 8=r3 from hr3', hr2'] at this; exact this)
 have T4:=Hd (fun w=>by have:=dK r3 2 w; rw [← hr3', show aC (aA (aA (aA s 2) 1) 8) 2=vk from hvk,show aA (aA (aA (aA s 2) 1) 8) 2=r4 from hr4', hr3'] at this; exact this);have e29:(s.size:Int)=29:=by omega
 obtain ⟨r,hr⟩:∃ r,w.heap.size=r:=⟨_,rfl⟩
 obtain ⟨x1,hx1⟩:∃ x1,w.alloc (.cells #[.int .i64 0,.int .i64 0,.int .u64 0,.int .i64 0] 48)=x1:=⟨_,rfl⟩
 obtain ⟨q1,q2,q3⟩:=aV hx1 hr;have X1:=Hd hx1;have HR:Hid (w.heap.size≤r):=Hd (by omega);have Q2:=Hd q2;have Q3:=Hd q3;clear hx1 q1 q2 q3;clear hs hvs hve hvn hvk hr1' hr2' hr3' hr4' hok l1 l2 l3 l4 l5 l6 l7 l8;go_enter Tryz.func29,Tryz.ntmps29;go_upto_region 1 with fail
 rw [X1.out];go_wp2_with fail;refine (T1.out _).mono ?_;rintro e w2 ⟨rfl,b2⟩;go_wp2_with fail;refine (T2.out _).mono ?_;rintro e w3 ⟨rfl,b3⟩;go_wp2_with fail;refine (T3.out _).mono ?_;rintro e w4 ⟨rfl,b4⟩;go_wp2_with fail;refine (T4.out _).mono ?_;rintro e w5 ⟨rfl,b5⟩;have m5:=Hd (bG (bG (bG (bG Q2.out b2) b3) b4) b5);have B5:=Hd (chain (chain (chain (chain Q3.out b2) b3) b4) b5);clear b2 b3 b4 b5 T1 T2 T3 T4;obtain ⟨t,ht⟩:∃ t,w5.heap.size=t:=⟨_,rfl⟩
 obtain ⟨x6,hx6⟩:∃ x6,w5.alloc (.cells #[.int .i64 vs,.int .i64 ve,.int .u64 vn,.int .i64 vk] 48)=x6:=⟨_,rfl⟩
 obtain ⟨q1,q2,q3⟩:=aV hx6 ht;have X6:=Hd hx6;have m6:=Hd (bG m5.out q3);have B6:=Hd (chain B5.out q3);have G6:=Hd q2;obtain ⟨⟨y0,y1,y2,y3⟩,u0,u1,u2,u3⟩:=aG q2;clear hx6 q1 q2 q3 m5 B5;go_upto_region 8 with fail
 rw [X6.out];go_wp2_with fail;refine (RG.out _).mono ?_;rintro e w7 ⟨rfl,b7⟩;have m7:=bG m6.out b7;have t7:=Hd (bG G6.out b7);have B7:=Hd (chain B6.out b7);clear y0 y1 y2 y3 u0 u1 u2 u3 b7;obtain ⟨n1,n2⟩:=set4 m7 (.int .i64 vs) (.int .i64 ve) (.int .u64 vn) (.int .i64 vk);obtain ⟨⟨y0,y1,y2,y3⟩,u0,u1,u2,u3⟩:=aG m7
 have FIN:Hid ((st4 w7 r (.int .i64 vs) (.int .i64 ve) (.int .u64 vn) (.int .i64 vk)).heap[r]?=some (.cells #[.int .i64 vs,.int .i64 ve,.int .u64 vn,.int .i64 vk] 48)∧Below w.heap.size w (st4 w7 r (.int .i64 vs) (.int .i64 ve) (.int .u64 vn) (.int .i64 vk))):=Hd ⟨n1,B7.out.trans (n2.below (fun k hk=>by rw [hk]; exact HR.out) B7.out.size)⟩;unfold st4 at FIN;clear n1 n2 m7;obtain ⟨⟨z0,z1,z2,z3⟩,_⟩:=aG t7.out;go_wp2_with fail
 exact bodyPost_ret (v:=.tuple #[.agg #[.int .i64 vs,.int .i64 ve,.int .u64 vn,.int .i64 vk],.string r4,.bool true]) (cJ (fn:=Tryz.f29) rfl _ _ r 48 _ (0,0) _ _ _ rfl rfl rfl FIN.out.1 Tryz.underlying48 rfl fG) rfl ⟨rfl,FIN.out.2⟩
theorem EU (s:ByteArray) (w:World) (hs:s.size≠29) :
  Calls Tryz.prog 29 #[.string s] w fun e w' => e=.returned (.tuple #[.agg #[.int .i64 0,.int .i64 0,.int .u64 0,.int .i64 0],.string ⟨#[]⟩,.bool false])∧Below w.heap.size w w' := by
 have e29:¬ (s.size:Int)=29:=by omega
 obtain ⟨r,hr⟩:∃ r,w.heap.size=r:=⟨_,rfl⟩
 obtain ⟨x1,hx1⟩:∃ x1,w.alloc (.cells #[.int .i64 0,.int .i64 0,.int .u64 0,.int .i64 0] 48)=x1:=⟨_,rfl⟩
 obtain ⟨q1,q2,q3⟩:=aV hx1 hr;have X1:=Hd hx1;have HR:Hid (w.heap.size≤r):=Hd (by omega);have Q2:=Hd q2;have Q3:=Hd q3;clear hx1 q1 q2 q3;clear hs;go_enter Tryz.func29,Tryz.ntmps29;go_upto_region 1 with fail
 rw [X1.out];obtain ⟨n1,n2⟩:=set4 Q2.out (.int .i64 0) (.int .i64 0) (.int .u64 0) (.int .i64 0);obtain ⟨⟨y0,y1,y2,y3⟩,u0,u1,u2,u3⟩:=aG Q2.out;have FIN:Hid ((st4 x1 r (.int .i64 0) (.int .i64 0) (.int .u64 0) (.int .i64 0)).heap[r]?=some (.cells #[.int .i64 0,.int .i64 0,.int .u64 0,.int .i64 0] 48)∧Below w.heap.size w (st4 x1 r (.int .i64 0) (.int .i64 0) (.int .u64 0) (.int .i64 0))):=Hd ⟨n1,Q3.out.trans (n2.below (fun k hk=>by rw [hk]; exact HR.out) Q3.out.size)⟩;unfold st4 at FIN;clear n1 n2;go_wp2_with fail
 exact bodyPost_ret (v:=.tuple #[.agg #[.int .i64 0,.int .i64 0,.int .u64 0,.int .i64 0],.string ⟨#[]⟩,.bool false]) (cJ (fn:=Tryz.f29) rfl _ _ r 48 _ (0,0) _ _ _ rfl rfl rfl FIN.out.1 Tryz.underlying48 rfl fG) rfl ⟨rfl,FIN.out.2⟩
theorem UF (s:ByteArray) (w:World) (h:hOk s=false) :
  Calls Tryz.prog 29 #[.string s] w fun e w' => e=.returned (.tuple #[.agg #[.int .i64 0,.int .i64 0,.int .u64 0,.int .i64 0],.string ⟨#[]⟩,.bool false])∧Below w.heap.size w w' := by
 by_cases hs:s.size=29
 ·refine EV s _ _ _ _ _ _ _ _ w hs rfl rfl rfl rfl rfl rfl rfl rfl ?_
  unfold hOk at h;rw [hs] at h
  simpa using h
 ·exact EU s w hs
theorem NM (s:ByteArray) (w:World) (h:hOk s=true) :
  Calls Tryz.prog 29 #[.string s] w fun e w' => e=.returned (.tuple #[.agg #[.int .i64 (hfS s),.int .i64 (hfE s),.int .u64 (hfN s),.int .i64 (hfK s)],.string (hr4 s),.bool true])∧Below w.heap.size w w' := by
 unfold hOk at h;simp only [Bool.and_eq_true,decide_eq_true_eq] at h;exact zJ s _ _ _ _ _ _ _ _ w h.1 rfl rfl rfl rfl rfl rfl rfl rfl h.2
end Go.Proofs.YthcejfnngkmojaaGreatDoor
