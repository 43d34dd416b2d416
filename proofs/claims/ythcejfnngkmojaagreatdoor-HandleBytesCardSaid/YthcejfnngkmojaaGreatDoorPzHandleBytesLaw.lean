/-
 HandleBytesLaw.
-/
import Derived.Test.YthcejfnngkmojaaGreatDoorP20
import Derived.Test.YthcejfnngkmojaaGreatDoorPzHrf
namespace Go.Proofs.YthcejfnngkmojaaGreatDoor
open Go Go.RowKit
set_option maxRecDepth 20000
set_option maxHeartbeats 12800000
set_option linter.unusedVariables false
set_option linter.unusedSimpArgs false
theorem kA (s ep nn k:Int) (ky sx tag:ByteArray) (w:World) (A kt T:ByteArray) (p q b1 b2:Bool) (pe qe vs ve vn vk:Int)
  (hp:(p=true∧pe=0)∨(p=false∧pe=1)) (hq:(q=true∧qe=0)∨(q=false∧qe=2)) (zk:ky.size≤140737488351232) (hkt:ky.extract 0 (min (ky.size:Int) 100).toNat=kt)
  (PG:Hid (∀ w,Calls Tryz.prog 26 #[.agg #[.int .i64 s,.int .i64 ep,.int .u64 nn,.int .i64 k],.string kt] w fun e w' => e=.returned (.tuple #[.string A,.int .i64 pe])∧Below w.heap.size w w'))
  (RP:Hid (∀ w,Calls Tryz.prog 27 #[.agg #[.int .i64 s,.int .i64 ep,.int .u64 nn,.int .i64 k],.string kt] w fun e w' => e=.returned (.tuple #[.string A,.bool p])∧Below w.heap.size w w'))
  (TK:Hid (∀ w,Calls Tryz.prog 28 #[.string sx] w fun e w' => e=.returned (.tuple #[.agg #[.int .i64 vs,.int .i64 ve,.int .u64 vn,.int .i64 vk],.string T,.int .i64 qe])∧Below w.heap.size w w'))
  (RT:Hid (∀ w,Calls Tryz.prog 29 #[.string sx] w fun e w' => e=.returned (.tuple #[.agg #[.int .i64 vs,.int .i64 ve,.int .u64 vn,.int .i64 vk],.string T,.bool q])∧Below w.heap.size w w'))
  (C1:Hid (∀ w,Calls Tryz.prog 30 #[.agg #[.int .i64 s,.int .i64 ep,.int .u64 nn,.int .i64 k],.string tag,.string kt] w fun e w' => e=.returned (.bool b1)∧Below w.heap.size w w'))
  (D1:Hid (∀ w,Calls Tryz.prog 31 #[.agg #[.int .i64 s,.int .i64 ep,.int .u64 nn,.int .i64 k],.string tag,.string kt] w fun e w' => e=.returned (.bool b1)∧Below w.heap.size w w'))
  (C2:Hid (∀ w,Calls Tryz.prog 30 #[.agg #[.int .i64 vs,.int .i64 ve,.int .u64 vn,.int .i64 vk],.string T,.string kt] w fun e w' => e=.returned (.bool b2)∧Below w.heap.size w w'))
  (D2:Hid (∀ w,Calls Tryz.prog 31 #[.agg #[.int .i64 vs,.int .i64 ve,.int .u64 vn,.int .i64 vk],.string T,.string kt] w fun e w' => e=.returned (.bool b2)∧Below w.heap.size w w')) :
  Calls Tryz.prog 8 #[.agg #[.int .i64 s,.int .i64 ep,.int .u64 nn,.int .i64 k],.string ky,.string sx,.string tag] w fun e w' => e=.returned (.bool true)∧Below w.heap.size w w' := by
 obtain ⟨mn,hmn⟩:∃ m:Int,min (ky.size:Int) 100=m:=⟨_,rfl⟩
 have m1:min (ky.size:Int) 100=mn:=hmn;have m2:(if 100 < (ky.size:Int) then 100 else (ky.size:Int))=mn:=by rw [← hmn]; split <;> omega
 have m3:0≤mn:=by omega
 have m4:mn≤(ky.size:Int):=by omega
 have m5:ky.extract 0 mn.toNat=kt:=by rw [← hmn]; exact hkt
 obtain ⟨x1,hx1⟩:∃ xx,w.alloc (.cells #[.int .i64 s,.int .i64 ep,.int .u64 nn,.int .i64 k] 48)=xx:=⟨_,rfl⟩
 obtain ⟨q1,q2,q3⟩:=aV hx1 rfl;have X1:=Hd hx1;have Q2:=Hd (And.intro q2 q3);clear hx1 q1 q2 q3 hmn zk hkt
 rcases hp with ⟨rfl,rfl⟩ | ⟨rfl,rfl⟩
 all_goals rcases hq with ⟨rfl,rfl⟩ | ⟨rfl,rfl⟩
 all_goals
  go_enter Tryz.func8,Tryz.ntmps8;try simp only [List.append_eq,List.cons_append,List.nil_append]
  go_upto_region 1 with fail
  rw [X1.out];go_wp2_with fail;refine (tP _).mono ?_;rintro e w1 ⟨rfl,b1⟩;have mh:=bG Q2.out.1 b1;have B1:=Hd (chain Q2.out.2 b1);obtain ⟨⟨y0,y1,y2,y3⟩,_⟩:=aG mh;have MH:=Hd mh;clear b1 mh;go_wp2_with fail;refine (PG.out _).mono ?_;rintro e w2 ⟨rfl,b2⟩;have mh:=bG MH.out b2;have B2:=Hd (chain B1.out b2);clear y0 y1 y2 y3;obtain ⟨⟨y0,y1,y2,y3⟩,_⟩:=aG mh;have MH:=Hd mh;clear b2 mh;go_wp2_with fail;refine (RP.out _).mono ?_;rintro e w3 ⟨rfl,b3⟩;have mh:=bG MH.out b3;have B3:=Hd (chain B2.out b3);clear y0 y1 y2 y3;have MH:=Hd mh
  clear b3 mh;go_wp2_with fail;refine (TK.out _).mono ?_;rintro e w4 ⟨rfl,b4⟩;have mh:=bG MH.out b4;have B4:=Hd (chain B3.out b4);have MH:=Hd mh;clear b4 mh;obtain ⟨t,ht9⟩:∃ t,w4.heap.size=t:=⟨_,rfl⟩
  obtain ⟨x4,hx4⟩:∃ xx,w4.alloc (.cells #[.int .i64 vs,.int .i64 ve,.int .u64 vn,.int .i64 vk] 48)=xx:=⟨_,rfl⟩
  obtain ⟨q1,q2,q3⟩:=aV hx4 ht9;have X4:=Hd hx4;have M4:=Hd (And.intro (bG MH.out q3) q2);have B5:=Hd (chain B4.out q3);clear hx4 q1 q2 q3 MH;go_upto_region 8 with fail
  rw [X4.out];go_wp2_with fail;refine (RT.out _).mono ?_;rintro e w5 ⟨rfl,b5⟩;have mh:=bG M4.out.1 b5;have mt:=bG M4.out.2 b5;have B6:=Hd (chain B5.out b5);clear b5;obtain ⟨u,hu⟩:∃ u,w5.heap.size=u:=⟨_,rfl⟩
  obtain ⟨wz,hwz⟩:∃ xx,w5.alloc (.cells #[.int .i64 vs,.int .i64 ve,.int .u64 vn,.int .i64 vk] 48)=xx:=⟨_,rfl⟩
  obtain ⟨q1,q2,q3⟩:=aV hwz hu;have mh2:=bG mh q3;have mt2:=bG mt q3;have B7:=Hd (chain B6.out q3);have HC:Hid (∀ w', Below wz.heap.size wz w'→w'.heap[w.heap.size]?=some (.cells #[.int .i64 s,.int .i64 ep,.int .u64 nn,.int .i64 k] 48)∧w'.heap[t]?=some (.cells #[.int .i64 vs,.int .i64 ve,.int .u64 vn,.int .i64 vk] 48)∧w'.heap[u]?=some (.cells #[.int .i64 vs,.int .i64 ve,.int .u64 vn,.int .i64 vk] 48)):=Hd fun w' hb=>⟨bG mh2 hb,bG mt2 hb,bG q2 hb⟩
  have S0:=Hd (Below.refl wz.heap.size wz).drew;have HWZ:=Hd hwz;clear q1 q2 q3 mh2 mt2 mh mt hwz;go_upto_region 9 with fail
  rw [HWZ.out];refine wp_region_held_drew (S:=fun w' => Below wz.heap.size wz w') (by kernel_rfl) S0.out (fun hS=>?_);refine Hu 0 52 hS ?_;simp only [SL];refine Hu 1 53 hS ?_;simp only [SL];refine Hu 2 54 hS ?_;simp only [SL];refine Hu 3 55 hS ?_;simp only [SL];refine Hu 4 56 hS ?_;simp only [SL];refine Hu 5 57 hS ?_;simp only [SL];refine Hu 6 58 hS ?_;simp only [SL];refine Hu 7 59 hS ?_;simp only [SL];refine Hu 8 60 hS ?_;simp only [SL]
  first | refine Hn 9 61 hS ?_ | refine Hu 9 61 hS ?_
  simp only [SL]
  first | refine Hn 10 62 hS ?_ | refine Hu 10 62 hS ?_
  simp only [SL];refine Hu 11 63 hS ?_;simp only [SL];refine Hu 12 64 hS ?_;simp only [SL]
  first | refine Hn 13 65 hS ?_ | refine Hu 13 65 hS ?_
  simp only [SL]
  first | refine Hn 14 66 hS ?_ | refine Hu 14 66 hS ?_
  simp only [SL]
  first | refine Hn 15 67 hS ?_ | refine Hu 15 67 hS ?_
  simp only [SL]
  first | refine Hn 16 68 hS ?_ | refine Hu 16 68 hS ?_
  simp only [SL]
  first | refine Hn 17 69 hS ?_ | refine Hu 17 69 hS ?_
  simp only [SL]
  first | refine Hn 18 70 hS ?_ | refine Hu 18 70 hS ?_
  simp only [SL];refine Hu 19 71 hS ?_;simp only [SL];refine Hu 20 72 hS ?_;simp only [SL];refine Hu 21 73 hS ?_;simp only [SL];refine ht (i:=22) 74 (v:=?_) rfl rfl (by kernel_rfl) (fun _ _ _ h=>h) hS (by rfl) ?_ ?_
  rotate_left
  ·intro w9 s9
   have k9:=(HC.out _ s9).2.1;obtain ⟨⟨q0,q1,q2,q3⟩,_⟩:=aG k9;clear s9;go_simp;try (with_reducible rfl)
  simp only [SL];refine ht (i:=23) 75 (v:=?_) rfl rfl (by kernel_rfl) (fun _ _ _ h=>h) hS (by rfl) ?_ ?_
  rotate_left
  ·intro w9 s9
   have k9:=(HC.out _ s9).2.2;obtain ⟨⟨q0,q1,q2,q3⟩,_⟩:=aG k9;clear s9;go_simp;try (with_reducible rfl)
  simp only [SL];refine Hu 24 76 hS ?_;simp only [SL];refine Hu 25 77 hS ?_;simp only [SL];refine Hu 26 78 hS ?_;simp only [SL];refine Hu 27 79 hS ?_;simp only [SL];refine Hu 28 80 hS ?_;simp only [SL];refine Hu 29 81 hS ?_;simp only [SL];refine Hu 30 82 hS ?_;simp only [SL];refine Hu 31 83 hS ?_;simp only [SL];refine Hu 32 84 hS ?_;simp only [SL];refine Hu 33 85 hS ?_;simp only [SL]
  first | refine Hn 34 86 hS ?_ | refine Hu 34 86 hS ?_
  simp only [SL]
  first | refine Hn 35 87 hS ?_ | refine Hu 35 87 hS ?_
  simp only [SL];refine Hu 36 88 hS ?_;simp only [SL];refine Hu 37 89 hS ?_;simp only [SL]
  first | refine Hn 38 90 hS ?_ | refine Hu 38 90 hS ?_
  simp only [SL]
  first | refine Hn 39 91 hS ?_ | refine Hu 39 91 hS ?_
  simp only [SL]
  first | refine Hn 40 92 hS ?_ | refine Hu 40 92 hS ?_
  simp only [SL]
  first | refine Hn 41 93 hS ?_ | refine Hu 41 93 hS ?_
  simp only [SL]
  first | refine Hn 42 94 hS ?_ | refine Hu 42 94 hS ?_
  simp only [SL]
  first | refine Hn 43 95 hS ?_ | refine Hu 43 95 hS ?_
  simp only [SL];refine Hu 44 96 hS ?_;simp only [SL];refine Hu 45 97 hS ?_;simp only [SL];refine Hu 46 98 hS ?_;simp only [SL];refine ht (i:=47) 99 (v:=?_) rfl rfl (by kernel_rfl) (fun _ _ _ h=>h) hS (by rfl) ?_ ?_
  rotate_left
  ·intro w9 s9
   have k9:=(HC.out _ s9).1;obtain ⟨⟨q0,q1,q2,q3⟩,_⟩:=aG k9;clear s9;go_simp;try (with_reducible rfl)
  simp only [SL];refine Hu 48 100 hS ?_;simp only [SL];refine Hu 49 101 hS ?_;simp only [SL];refine ht (i:=51) 103 (v:=?_) rfl rfl (by kernel_rfl) (fun _ _ _ h=>h) hS (by rfl) ?_ ?_
  rotate_left
  ·intro w9 s9
   have k9:=(HC.out _ s9).1;obtain ⟨⟨q0,q1,q2,q3⟩,_⟩:=aG k9;clear s9;go_simp;try (with_reducible rfl)
  simp only [SL];refine Hu 52 104 hS ?_;simp only [SL];refine Hu 53 105 hS ?_;simp only [SL];refine Hs 50 (fun K HK=>?_);go_simp;go_wp2_with fail;refine (C1.out _).mono ?_;rintro e w6 ⟨rfl,b6⟩;refine HK.out _ _ ?_ ?_
  ·exact chain hS b6
  clear HK K;try simp only [Act.put,SL]
  have hS9:=chain hS b6;clear hS b6;have hS:=hS9;clear hS9;refine Hs 54 (fun K HK=>?_);go_simp;go_wp2_with fail;refine (D1.out _).mono ?_;rintro e w6 ⟨rfl,b6⟩;refine HK.out _ _ ?_ ?_
  ·exact chain hS b6
  clear HK K;try simp only [Act.put,SL]
  have hS9:=chain hS b6;clear hS b6;have hS:=hS9;clear hS9;refine Hu 55 107 hS ?_;simp only [SL];refine Hu 56 108 hS ?_;simp only [SL];refine Hu 57 109 hS ?_;simp only [SL];refine ht (i:=58) 110 (v:=?_) rfl rfl (by kernel_rfl) (fun _ _ _ h=>h) hS (by rfl) ?_ ?_
  rotate_left
  ·intro w9 s9
   have k9:=(HC.out _ s9).2.1;obtain ⟨⟨q0,q1,q2,q3⟩,_⟩:=aG k9;clear s9;go_simp;try (with_reducible rfl)
  simp only [SL];refine Hu 59 111 hS ?_;simp only [SL];refine Hu 60 112 hS ?_;simp only [SL];refine ht (i:=62) 114 (v:=?_) rfl rfl (by kernel_rfl) (fun _ _ _ h=>h) hS (by rfl) ?_ ?_
  rotate_left
  ·intro w9 s9
   have k9:=(HC.out _ s9).2.1;obtain ⟨⟨q0,q1,q2,q3⟩,_⟩:=aG k9;clear s9;go_simp;try (with_reducible rfl)
  simp only [SL];refine Hu 63 115 hS ?_;simp only [SL];refine Hu 64 116 hS ?_;simp only [SL];refine Hs 61 (fun K HK=>?_);go_simp;go_wp2_with fail;refine (C2.out _).mono ?_;rintro e w6 ⟨rfl,b6⟩;refine HK.out _ _ ?_ ?_
  ·exact chain hS b6
  clear HK K;try simp only [Act.put,SL]
  have hS9:=chain hS b6;clear hS b6;have hS:=hS9;clear hS9;refine Hs 65 (fun K HK=>?_);go_simp;go_wp2_with fail;refine (D2.out _).mono ?_;rintro e w6 ⟨rfl,b6⟩;refine HK.out _ _ ?_ ?_
  ·exact chain hS b6
  clear HK K;try simp only [Act.put,SL]
  have hS9:=chain hS b6;clear hS b6;have hS:=hS9;clear hS9;refine Hu 66 118 hS ?_;simp only [SL];refine Hu 67 119 hS ?_;simp only [SL];refine Hu 68 8 hS ?_;simp only [SL];refine wpAnyH_done (by kernel_rfl) ?_ _;have FIN:=Hd (chain B7.out hS);clear hS;go_wp2_with fail;go_ret;exact ⟨rfl,FIN.out⟩
theorem handleBytes_law (s ep nn k:Int) (ky sx tag:ByteArray) (w:World) (v0:(Lit.int .i64 s).wf=true) (v1:(Lit.int .i64 ep).wf=true) (v2:(Lit.int .u64 nn).wf=true) (v3:(Lit.int .i64 k).wf=true) (zk:ky.size≤140737488351232) (zs:sx.size≤140737488351232) (zt:tag.size≤140737488351232) :
  Calls Tryz.prog 8 #[.agg #[.int .i64 s,.int .i64 ep,.int .u64 nn,.int .i64 k],.string ky,.string sx,.string tag] w fun e w' => e=.returned (.bool true)∧Below w.heap.size w w' := by
 have u2:0≤nn∧nn≤18446744073709551615:=by
  simp only [Lit.wf,Bool.and_eq_true,decide_eq_true_eq] at v2;exact v2
 obtain ⟨n0,n1⟩:=u2;have hkt:(ky.extract 0 (min (ky.size:Int) 100).toNat).size≤100:=by rw [ByteArray.size_extract]; omega
 obtain ⟨⟨l1,l2⟩,⟨l3,l4⟩,⟨l5,l6⟩,⟨l7,l8⟩⟩:=jZ sx;obtain ⟨kt,hk⟩:∃ x,ky.extract 0 (min (ky.size:Int) 100).toNat=x:=⟨_,rfl⟩
 rw [hk] at hkt
 obtain ⟨A,p,pe,hp,PG,RP,b1,C1,D1⟩:∃ (A:ByteArray) (p:Bool) (pe:Int),((p=true∧pe=0)∨(p=false∧pe=1))∧(Hid (∀ w,Calls Tryz.prog 26 #[.agg #[.int .i64 s,.int .i64 ep,.int .u64 nn,.int .i64 k],.string kt] w fun e w' => e=.returned (.tuple #[.string A,.int .i64 pe])∧Below w.heap.size w w'))∧(Hid (∀ w,Calls Tryz.prog 27 #[.agg #[.int .i64 s,.int .i64 ep,.int .u64 nn,.int .i64 k],.string kt] w fun e w' => e=.returned (.tuple #[.string A,.bool p])∧Below w.heap.size w w'))∧∃ b1,(Hid (∀ w,Calls Tryz.prog 30 #[.agg #[.int .i64 s,.int .i64 ep,.int .u64 nn,.int .i64 k],.string tag,.string kt] w fun e w' => e=.returned (.bool b1)∧Below w.heap.size w w'))∧(Hid (∀ w,Calls Tryz.prog 31 #[.agg #[.int .i64 s,.int .i64 ep,.int .u64 nn,.int .i64 k],.string tag,.string kt] w fun e w' => e=.returned (.bool b1)∧Below w.heap.size w w')):=by
  cases h:fF s ep k with
  | true=>exact ⟨_,true,0,.inl ⟨rfl,rfl⟩,Hd fun w=>CF s ep nn k kt _ w h n0 n1 (by omega) rfl,Hd fun w=>UG s ep nn k kt _ w h n0 n1 hkt rfl,_,Hd fun w=>nI s ep nn k tag kt _ w h n0 n1 (by omega) (by omega) rfl,Hd fun w=>sM s ep nn k tag kt _ w h n0 n1 hkt rfl⟩
  | false=>exact ⟨_,false,1,.inr ⟨rfl,rfl⟩,Hd fun w=>aA5 s ep nn k kt w h,Hd fun w=>ZR s ep nn k kt w h,_,Hd fun w=>vN s ep nn k tag kt w h,Hd fun w=>vC s ep nn k tag kt w h⟩
 cases h:hOk sx with
 | true =>
  have h' := h;unfold hOk at h';simp only [Bool.and_eq_true,decide_eq_true_eq] at h';have h4:=(LF h'.1).2;exact kA s ep nn k ky sx tag w A kt _ p true b1 _ pe 0 _ _ _ _ hp (.inl ⟨rfl,rfl⟩) zk hk PG RP (Hd fun w=>vL sx w h) (Hd fun w=>NM sx w h) C1 D1 (Hd fun w=>nI _ _ _ _ _ kt _ w h'.2 l5 l6 (by omega) (by omega) rfl) (Hd fun w=>sM _ _ _ _ _ kt _ w h'.2 l5 l6 hkt rfl)
 | false =>
  have h0:fF 0 0 0=false:=rfl;exact kA s ep nn k ky sx tag w A kt _ p false b1 _ pe 2 _ _ _ _ hp (.inr ⟨rfl,rfl⟩) zk hk PG RP (Hd fun w=>CB sx w h) (Hd fun w=>UF sx w h) C1 D1 (Hd fun w=>vN _ _ 0 _ _ kt w h0) (Hd fun w=>vC _ _ 0 _ _ kt w h0)
end Go.Proofs.YthcejfnngkmojaaGreatDoor
