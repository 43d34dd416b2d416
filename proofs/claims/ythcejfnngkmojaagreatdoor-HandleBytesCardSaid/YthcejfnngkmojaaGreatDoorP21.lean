/-
 Hr, Hp, Ho, Hs, Ht, Hx, RefPT, RefTurned.
-/
import Derived.Test.YthcejfnngkmojaaGreatDoorP20
import Derived.Test.YthcejfnngkmojaaGreatDoorP02
import Derived.Test.YthcejfnngkmojaaGreatDoorP19
import Derived.Deep.DeepCutAuto
import Derived.Test.YthcejfnngkmojaaGreatDoorP03
import Derived.Laws.MakeOwn
import Derived.Outline
namespace Go.Proofs.YthcejfnngkmojaaGreatDoor
open Go Go.RowKit
set_option maxRecDepth 20000
set_option maxHeartbeats 12800000
set_option linter.unusedVariables false
set_option linter.unusedSimpArgs false
theorem aCT {w0 w:World} {R:List Nat} {t d s n:Nat} {E E' : List Ent} {c:ByteArray} {x e y:Int} (h:TxS w0 R w t d s n E)(he:(e=0∧y=x) ∨ (e ≠ 0∧y=0))
  (HC:∀ (R' : List Nat)(wa:World)(b0 b1:Nat),TxS w0 R' wa t d s n E → (wa.heap[b0]?=some (.cells #[.pointer (some ⟨t,0,none⟩)] 24)) → (wa.heap[b1]?=some (.cells #[.string c] 9)) → ((b0 ∈ R'∧b0 ≠ t)∧(b1 ∈ R'∧b1 ≠ t)) → Calls Tryz.prog 71 #[.pointer (some ⟨b1,0,none⟩),.pointer (some ⟨b0,0,none⟩)] wa fun e' w' => e'=.returned (.tuple #[.int .i64 x,.int .i64 e])∧TxS w0 R' w' t d s n E'∧KeptT R' t wa w') :
  Calls Tryz.prog 34 #[.pointer (some ⟨t,0,none⟩),.string c] w fun e' w' => e'=.returned (.tuple #[.int .i64 y,.int .i64 e])∧TxS w0 R w' t d s n E'∧KeptT R t w w' := by
 obtain ⟨a1,a2,a3,a4,a5,a6,a7⟩:=h.box (.cells #[.pointer (some ⟨t,0,none⟩)] 24);obtain ⟨x1,hx1⟩:∃ x1,w.alloc (.cells #[.pointer (some ⟨t,0,none⟩)] 24)=x1:=⟨_,rfl⟩
 rw [hx1] at a1 a2 a3 a5;obtain ⟨b1,b2,b3,b4,b5,b6,b7⟩:=a1.box (.cells #[.string c] 9);obtain ⟨x2,hx2⟩:∃ x2,x1.alloc (.cells #[.string c] 9)=x2:=⟨_,rfl⟩
 rw [hx2] at b1 b2 b3 b5;rw [a5] at b1 b3 b4 b5 b6 b7;have hkw:KeptT R t w x2:=a2.trans (b2.sub (fun k hk=>by simp [hk]))
 have VC:=Hd (pT (hk:=fun w=>by kernel_rfl)(n:=n)(E' := E')(x:=x)(e:=e)(y:=y)(caps:=#[.pointer (some ⟨w.heap.size + 1,0,none⟩),.pointer (some ⟨w.heap.size,0,none⟩)]) b1 he (fun R' wa hs hT hK=>HC R' wa (w.heap.size)(w.heap.size + 1) hT ((hK (w.heap.size)(by simp) a4).trans ((b2 (w.heap.size)(by simp) a4).trans (a3)))((hK (w.heap.size + 1)(by simp) b4).trans (b3)) ⟨⟨hs (w.heap.size)(by simp),a4⟩,⟨hs (w.heap.size + 1)(by simp),b4⟩⟩));have KP:=Hd hkw;have bx:=(aM ((b2 (w.heap.size)(by simp) a4).trans (a3))).1;have X1:=Hd (And.intro hx1 hx2)
 clear h he HC hkw a1 a2 a3 a4 a5 a6 a7 b1 b2 b3 b4 b5 b6 b7 hx1 hx2;go_enter Tryz.func34,Tryz.ntmps34;go_upto_region 1 with fail
 try simp only [World.heap_size_alloc]
 rw [X1.out.1,X1.out.2];go_wp2_with fail;refine VC.out.mono ?_;rintro e' w2 ⟨rfl,h1,h2⟩;have FIN:Hid (TxS w0 R w2 t d s n E'∧KeptT R t w w2):=Hd ⟨h1.sub (fun k hk=>by simp [hk]),KP.out.trans (h2.sub (fun k hk=>by simp [hk]))⟩;clear h1 h2 VC bx;go_wp2_with fail;go_ret2;exact ⟨rfl,FIN.out⟩
theorem zN {w0 w:World} {R:List Nat} {t d s:Nat} {E:List Ent} {bs bt:Nat} {c:ByteArray} {v m:Int} {a b X:ByteArray} (h:TxS w0 R w t d s 640 E)(hs:w.heap[bs]?=some (.cells #[.string c] 9))(hb:w.heap[bt]?=some (.cells #[.pointer (some ⟨t,0,none⟩)] 24))(hm:(bs ∈ R∧bs ≠ t)∧(bt ∈ R∧bt ≠ t))(hE:E.length ≤ 290)(hr:RingE E v a b)(hc:c.size=32)(ha:a.size ≤ 40)(hv:v < 65535)(hvm:v + 1=m)(hX:Str (aL m 3)=X) :
  Calls Tryz.prog 71 #[.pointer (some ⟨bs,0,none⟩),.pointer (some ⟨bt,0,none⟩)] w fun e w' => e=.returned (.tuple #[.int .i64 m,.int .i64 0])∧TxS w0 R w' t d s 640 (bT 10376293541461622790 c (bT 10376293541461622791 a (bT 10376293541461622789 X E)))∧KeptT R t w w' := by
 have c0:=(aM hs).1;have c1:=(aM hb).1;have e1:(c.size:Int)=32:=by omega
 have hrr:=hr.range;have e2:¬ v=65535:=by omega
 have e3:IntKind.i64.wrap (v + 1)=m:=by rw [hvm]; exact IntWalk.i64_in _ (by omega)
 have e4:IntKind.u64.wrap m=m:=IntWalk.u64_in _ (by omega);have hm0:0 ≤ m:=by omega
 have hXs:=(BD hm0 (show m ≤ 16777215 by omega)).2.2.2;have PT:=Hd (fun w=>by have:=jE m 3 w hm0; rw [hX] at this; exact this);rw [hX] at hXs;have HZ:=Hd (And.intro hE (And.intro (And.intro ha (show X.size ≤ 40 by omega))(show c.size ≤ 40 by omega)));have KY:=Hd (tI h (show E.length ≤ 600 by omega) hr);have HM:=Hd hm;have HBX:=Hd (And.intro hs hb);clear h hs hb hm hE hr hc ha hv hrr hm0 hX hXs hvm;go_enter Tryz.func71,Tryz.ntmps71;go_wp2_with fail;refine KY.out.mono ?_;rintro e w2 ⟨rfl,h1,h2⟩
 obtain ⟨a1,a2,a3,a4,a5,a6,a7⟩:=h1.box (.cells #[.int .i64 v,.string a,.string b] 115);obtain ⟨br,hbr⟩:∃ r3,w2.heap.size=r3:=⟨_,rfl⟩
 obtain ⟨x1,hx1⟩:∃ x1,w2.alloc (.cells #[.int .i64 v,.string a,.string b] 115)=x1:=⟨_,rfl⟩
 rw [hx1] at a1 a2 a3 a5;rw [hbr] at a1 a3 a4 a5 a6 a7;have X1:=Hd (And.intro hx1 hbr);have HB:=Hd a4;have m1:=(a2 bs HM.out.1.1 HM.out.1.2).trans ((h2 bs HM.out.1.1 HM.out.1.2).trans HBX.out.1);have m2:=(a2 bt HM.out.2.1 HM.out.2.2).trans ((h2 bt HM.out.2.1 HM.out.2.2).trans HBX.out.2);have F1:=Hd (And.intro a1 (And.intro (h2.trans a2)(And.intro m1 (And.intro m2 a3))));clear c0 c1;obtain ⟨⟨y0,y1,y2⟩,_⟩:=gI a3;clear h1 h2 KY a1 a2 a3 a4 a5 a6 a7 hx1 hbr m1 m2;go_upto_region 8 with fail
 rw [X1.out.1,X1.out.2];go_wp2_with fail;refine (PT.out _).mono ?_;rintro e w3 ⟨rfl,b3⟩;have hA:=Hd (show (fun w' => w'.heap[bt]?=some (.cells #[.pointer (some ⟨t,0,none⟩)] 24)∧w'.heap[bs]?=some (.cells #[.string c] 9)∧w'.heap[br]?=some (.cells #[.int .i64 v,.string a,.string b] 115)) w3.drew from ⟨bG F1.out.2.2.2.1 b3.drew,bG F1.out.2.2.1 b3.drew,bG F1.out.2.2.2.2 b3.drew⟩);have PU:=Hd (KO (key:=10376293541461622789)(val:=X)((F1.out.1.below b3).below Br.drew)(show E.length ≤ 300 by have:=HZ.out.1; omega)(by decide) HZ.out.2.1.2)
 have G:=Hd (And.intro ((F1.out.1.below b3).below Br.drew)(show KeptT (br :: R) t w3 w3.drew from fun _ _ _=>rfl));have HK3:Hid (KeptT R t w w3):=Hd (F1.out.2.1.trans ((F1.out.1.kept b3).sub fun k hk=>by simp [hk]));clear b3 F1 y0 y1 y2;go_upto_region 9 with fail
 refine wp_region_held_drew (S:=fun w' => w'.heap[bt]?=some (.cells #[.pointer (some ⟨t,0,none⟩)] 24)∧w'.heap[bs]?=some (.cells #[.string c] 9)∧w'.heap[br]?=some (.cells #[.int .i64 v,.string a,.string b] 115))(by kernel_rfl) hA.out (fun hS=>?_);refine Hv 0 30 ?va0x1 hS ?ha0x1 ?_
 case ha0x1 =>
  intro w9 s9;have k9:=(aM s9.1).1;clear s9;go_simp;try (with_reducible rfl)
 simp only [SL];refine Hu 2 32 hS ?_;simp only [SL];refine Hs 1 (fun K HK=>?_);go_simp;go_wp2_with fail;refine (oN 5 10376293541461622789 _ (by decide)).mono ?_;rintro e w6 ⟨rfl,rfl⟩;refine HK.out _ _ ?_ ?_
 ·exact hS
 clear HK K;try simp only [Act.put,SL]
 refine Hs 3 (fun K HK=>?_);go_simp;go_wp2_with fail;refine PU.out.mono ?_;rintro e w7 ⟨rfl,h1,h2⟩;refine HK.out _ _ ?_ ?_
 ·exact ⟨(h2 bt (by simp [HM.out.2.1]) HM.out.2.2).trans hS.1,(h2 bs (by simp [HM.out.1.1]) HM.out.1.2).trans hS.2.1,(h2 br (by simp) HB.out).trans hS.2.2⟩
 clear HK K;try simp only [Act.put,SL]
 have hS9:=(show (_∧_∧_) from ⟨(h2 bt (by simp [HM.out.2.1]) HM.out.2.2).trans hS.1,(h2 bs (by simp [HM.out.1.1]) HM.out.1.2).trans hS.2.1,(h2 br (by simp) HB.out).trans hS.2.2⟩)
 clear hS;have hS:=hS9;clear hS9;have F9:=Hd (And.intro h1 (G.out.2.trans h2));clear h1 h2 PU G;refine wpAnyH_done (by kernel_rfl) ?_ _;have hA:=Hd (show (fun w' => w'.heap[bt]?=some (.cells #[.pointer (some ⟨t,0,none⟩)] 24)∧w'.heap[bs]?=some (.cells #[.string c] 9)∧w'.heap[br]?=some (.cells #[.int .i64 v,.string a,.string b] 115)) w7.drew from hS);clear hS;have PU:=Hd (KO (key:=10376293541461622791)(val:=a)(F9.out.1.below Br.drew)(by have:=HZ.out.1; have:=tF 10376293541461622789 X E; omega)(by decide) HZ.out.2.1.1)
 have G:=Hd (And.intro (F9.out.1.below Br.drew)(show KeptT (br :: R) t w3 w7.drew from F9.out.2));clear F9;go_upto_region 10 with fail
 refine wp_region_held_drew (S:=fun w' => w'.heap[bt]?=some (.cells #[.pointer (some ⟨t,0,none⟩)] 24)∧w'.heap[bs]?=some (.cells #[.string c] 9)∧w'.heap[br]?=some (.cells #[.int .i64 v,.string a,.string b] 115))(by kernel_rfl) hA.out (fun hS=>?_);refine Hv 0 34 ?vb0x1 hS ?hb0x1 ?_
 case hb0x1 =>
  intro w9 s9;have k9:=(aM s9.1).1;clear s9;go_simp;try (with_reducible rfl)
 simp only [SL];refine Hu 2 36 hS ?_;simp only [SL];refine Hv 3 37 ?vb3x3 hS ?hb3x3 ?_
 case hb3x3 =>
  intro w9 s9;obtain ⟨⟨k0,k1,k2⟩,_⟩:=gI s9.2.2;clear s9;go_simp;try (with_reducible rfl)
 simp only [SL];refine Hs 1 (fun K HK=>?_);go_simp;go_wp2_with fail;refine (oN 7 10376293541461622791 _ (by decide)).mono ?_;rintro e w6 ⟨rfl,rfl⟩;refine HK.out _ _ ?_ ?_
 ·exact hS
 clear HK K;try simp only [Act.put,SL]
 refine Hs 4 (fun K HK=>?_);go_simp;go_wp2_with fail;refine PU.out.mono ?_;rintro e w7 ⟨rfl,h1,h2⟩;refine HK.out _ _ ?_ ?_
 ·exact ⟨(h2 bt (by simp [HM.out.2.1]) HM.out.2.2).trans hS.1,(h2 bs (by simp [HM.out.1.1]) HM.out.1.2).trans hS.2.1,(h2 br (by simp) HB.out).trans hS.2.2⟩
 clear HK K;try simp only [Act.put,SL]
 have hS9:=(show (_∧_∧_) from ⟨(h2 bt (by simp [HM.out.2.1]) HM.out.2.2).trans hS.1,(h2 bs (by simp [HM.out.1.1]) HM.out.1.2).trans hS.2.1,(h2 br (by simp) HB.out).trans hS.2.2⟩)
 clear hS;have hS:=hS9;clear hS9;have F10:=Hd (And.intro h1 (G.out.2.trans h2));clear h1 h2 PU G;refine wpAnyH_done (by kernel_rfl) ?_ _;have hA:=Hd (show (fun w' => w'.heap[bt]?=some (.cells #[.pointer (some ⟨t,0,none⟩)] 24)∧w'.heap[bs]?=some (.cells #[.string c] 9)∧w'.heap[br]?=some (.cells #[.int .i64 v,.string a,.string b] 115)) w7.drew from hS);clear hS
 have PU:=Hd (KO (key:=10376293541461622790)(val:=c)(F10.out.1.below Br.drew)(by have:=HZ.out.1; have:=tF 10376293541461622789 X E; have:=tF 10376293541461622791 a (bT 10376293541461622789 X E); omega)(by decide) HZ.out.2.2);have G:=Hd (And.intro (F10.out.1.below Br.drew)(show KeptT (br :: R) t w3 w7.drew from F10.out.2));clear F10;go_upto_region 11 with fail
 refine wp_region_held_drew (S:=fun w' => w'.heap[bt]?=some (.cells #[.pointer (some ⟨t,0,none⟩)] 24)∧w'.heap[bs]?=some (.cells #[.string c] 9)∧w'.heap[br]?=some (.cells #[.int .i64 v,.string a,.string b] 115))(by kernel_rfl) hA.out (fun hS=>?_);refine Hv 0 39 ?vc0x1 hS ?hc0x1 ?_
 case hc0x1 =>
  intro w9 s9;have k9:=(aM s9.1).1;clear s9;go_simp;try (with_reducible rfl)
 simp only [SL];refine Hv 2 41 ?vc2x2 hS ?hc2x2 ?_
 case hc2x2 =>
  intro w9 s9;have k9:=(aM s9.2.1).1;clear s9;go_simp;try (with_reducible rfl)
 simp only [SL];refine Hs 1 (fun K HK=>?_);go_simp;go_wp2_with fail;refine (oN 6 10376293541461622790 _ (by decide)).mono ?_;rintro e w6 ⟨rfl,rfl⟩;refine HK.out _ _ ?_ ?_
 ·exact hS
 clear HK K;try simp only [Act.put,SL]
 refine Hs 3 (fun K HK=>?_);go_simp;go_wp2_with fail;refine PU.out.mono ?_;rintro e w7 ⟨rfl,h1,h2⟩;refine HK.out _ _ ?_ ?_
 ·exact ⟨(h2 bt (by simp [HM.out.2.1]) HM.out.2.2).trans hS.1,(h2 bs (by simp [HM.out.1.1]) HM.out.1.2).trans hS.2.1,(h2 br (by simp) HB.out).trans hS.2.2⟩
 clear HK K;try simp only [Act.put,SL]
 have hS9:=(show (_∧_∧_) from ⟨(h2 bt (by simp [HM.out.2.1]) HM.out.2.2).trans hS.1,(h2 bs (by simp [HM.out.1.1]) HM.out.1.2).trans hS.2.1,(h2 br (by simp) HB.out).trans hS.2.2⟩)
 clear hS;have hS:=hS9;clear hS9;have F11:=Hd (And.intro h1 (G.out.2.trans h2));clear h1 h2 PU G;refine wpAnyH_done (by kernel_rfl) ?_ _;obtain ⟨⟨k0,k1,k2⟩,_⟩:=gI hS.2.2;clear hS;have FIN:Hid (TxS w0 R w7 t d s 640 (bT 10376293541461622790 c (bT 10376293541461622791 a (bT 10376293541461622789 X E)))∧KeptT R t w w7):=Hd ⟨F11.out.1.sub fun k hk=>by simp [hk],fun k hk hn=>(F11.out.2 k (by simp [hk]) hn).trans (HK3.out k hk hn)⟩;go_wp2_with fail;go_ret2;exact ⟨rfl,FIN.out⟩
theorem IL {w0 w:World} {R:List Nat} {t d s:Nat} {L:List (Int × Int × Int)} {n:Nat} {a b c:ByteArray} (h:TxS w0 R w t d s 640 (slE 0 L ++ fH n a b))(hL:L.length ≤ 200)(hn:n < 65535)(h0:n=0 → a=⟨#[]⟩∧b=⟨#[]⟩)(ha:a.size ≤ 40)(hc:c.size=32) :
  Calls Tryz.prog 34 #[.pointer (some ⟨t,0,none⟩),.string c] w fun e w' => e=.returned (.tuple #[.int .i64 ((n:Int) + 1),.int .i64 0])∧TxS w0 R w' t d s 640 (slE 0 L ++ fH (n + 1) c a)∧KeptT R t w w' := by
 have hm:=(oD n a b).n;have:=aCT (x:=(n:Int) + 1)(e:=0)(y:=(n:Int) + 1) h (.inl ⟨rfl,rfl⟩)(fun R' wa b0 b1 hT g0 g1 gm=>zN hT g1 g0 ⟨gm.2,gm.1⟩ (by rw [List.length_append,kJ]; omega)(wK hL (by omega) h0) hc ha (by omega) rfl rfl);rw [NQ hL h0] at this;exact this
theorem aC9 (n last:Int)(v:Bool)(w:World)(hv:inB 1 last n=v) :
  Calls Tryz.prog 106 #[.int .i64 n,.int .i64 last] w fun e w' => e=.returned (.bool v)∧w=w' := by
 have H:=Hd hv;clear hv
 by_cases h:1 ≤ n
 all_goals
  go_enter Tryz.func106,Tryz.ntmps106
  go_wp2
  go_ret;refine ⟨?_,rfl⟩;rw [← H.out];exact bS (by rw [Bool.eq_iff_iff]; simp [inB]; omega)
theorem iP (s ep nn k:Int)(v:Bool)(w:World)(hv:fF s ep k=v) :
  Calls Tryz.prog 64 #[.agg #[.int .i64 s,.int .i64 ep,.int .u64 nn,.int .i64 k]] w fun e w' => e=.returned (.bool v)∧Below w.heap.size w w' := by
 have hf:v=(inB 1 200 s && inB 1 15 ep && inB 1 65535 k):=hv.symm;clear hv
 cases h1:inB 1 200 s
 all_goals cases h2:inB 1 15 ep
 all_goals cases h3:inB 1 65535 k
 all_goals
  rw [h1,h2,h3] at hf;simp only [Bool.and_true,Bool.and_false,Bool.true_and,Bool.false_and] at hf;have H1:=Hd h1;have H2:=Hd h2;have H3:=Hd h3;have HF:=Hd hf;clear h1 h2 h3 hf;go_enter Tryz.func64,Tryz.ntmps64
  go_wp2_with ((go_at_call 106; refine (aC9 _ _ _ _ (by first | exact H1.out | exact H2.out | exact H3.out)).mono ?_; rintro e w9 ⟨rfl,rfl⟩))
  go_ret;exact ⟨by rw [HF.out]; rfl,Br.alloc (Nat.le_refl _) _⟩
theorem kQ (n size:Int)(x:ByteArray)(w:World)(h0:0 ≤ n)(hx:Str (aL n size)=x) :
  Calls Tryz.prog 107 #[.int .u64 n,.int .i64 size] w fun e w' => e=.returned (.string x)∧Below w.heap.size w w' := by
 have HX:=Hd hx;clear hx;go_enter Tryz.func107,Tryz.ntmps107;go_wp2_with fail;refine (jE _ _ _ h0).mono ?_;rw [HX.out];rintro e w1 ⟨rfl,b1⟩;go_wp2_with fail;go_ret;exact ⟨rfl,b1⟩
theorem CG (s ep nn k:Int)(v:ByteArray)(w:World)(hk:fF s ep k=true)(n0:0 ≤ nn)(n1:nn ≤ 18446744073709551615)(hv:hB s ep nn k=v) :
  Calls Tryz.prog 65 #[.agg #[.int .i64 s,.int .i64 ep,.int .u64 nn,.int .i64 k]] w fun e w' => e=.returned (.string v)∧Below w.heap.size w w' := by
 have hi:=wY hk;obtain ⟨p0,p1,p2,p3⟩:=wZ hk n0 n1;have g0:=cF p0.1;have g1:=cF p1.1;have g2:=cF p2.1;have g3:=cF p3.1;unfold hB at hv;obtain ⟨x,hx⟩:∃ x,Str (aL s 2)=x:=⟨_,rfl⟩
 obtain ⟨y,hy⟩:∃ x,Str (aL ep 1)=x:=⟨_,rfl⟩
 obtain ⟨z,hz⟩:∃ x,Str (aL nn 8)=x:=⟨_,rfl⟩
 obtain ⟨u,hu⟩:∃ x,Str (aL k 2)=x:=⟨_,rfl⟩
 rw [hx,hy,hz,hu] at hv;rw [hx] at g0;rw [hy] at g1;rw [hz] at g2;rw [hu] at g3;have Hx:=Hd hx;have Hy:=Hd hy;have Hz:=Hd hz;have Hq:=Hd hu;have HV:=Hd hv;have e1:IntKind.u64.wrap s=s:=IntWalk.u64_in _ (by omega);have e2:IntKind.u64.wrap ep=ep:=IntWalk.u64_in _ (by omega);have e3:IntKind.u64.wrap k=k:=IntWalk.u64_in _ (by omega);have s1:(9223372036854775807 < x.size + y.size)=False:=by rw [eq_iff_iff,iff_false]; omega
 have s2:(9223372036854775807 < x.size + y.size + z.size)=False:=by rw [eq_iff_iff,iff_false]; omega
 have s3:(9223372036854775807 < x.size + y.size + z.size + u.size)=False:=by rw [eq_iff_iff,iff_false]; omega
 have t1:(x ++ y).size=x.size + y.size:=ByteArray.size_append;have t2:(x ++ y ++ z).size=x.size + y.size + z.size:=by rw [ByteArray.size_append,t1]
 obtain ⟨x1,hx1⟩:∃ x1,w.alloc (.cells #[.int .i64 s,.int .i64 ep,.int .u64 nn,.int .i64 k] 48)=x1:=⟨_,rfl⟩
 obtain ⟨q1,q2,q3⟩:=aV hx1 rfl;have HC:Hid (∀ w', Below x1.heap.size x1 w' → w'.heap[w.heap.size]?=some (.cells #[.int .i64 s,.int .i64 ep,.int .u64 nn,.int .i64 k] 48)):=Hd fun w' hb=>bG q2 hb
 have HB:Hid (∀ w', Below x1.heap.size x1 w' → Below w.heap.size w w'):=Hd fun w' hb=>q3.trans (hb.mono (by omega))
 have X1:=Hd hx1;have S0:=Hd (Below.refl x1.heap.size x1).drew;have hi0:0 ≤ s:=by omega
 have hi1:0 ≤ ep:=by omega
 have hi3:0 ≤ k:=by omega
 clear hx hy hz hu hk hi p0 p1 p2 p3 hv g0 g1 g2 g3 q1 q2 q3 hx1;go_enter Tryz.func65,Tryz.ntmps65;go_upto_region 1 with fail
 rw [X1.out];refine wp_region_held_drew (S:=fun w' => Below x1.heap.size x1 w')(by kernel_rfl) S0.out (fun hS=>?_);refine Hu 0 3 hS ?_;simp only [SL];refine Hv 1 4 ?va1x2 hS ?ha1x2 ?_
 case ha1x2 =>
  intro w9 s9;have k9:=HC.out _ s9;obtain ⟨⟨q0,q1,q2,q3⟩,_⟩:=aG k9;clear s9;go_simp;try (with_reducible rfl)
 simp only [SL];refine Hu 2 5 hS ?_;simp only [SL];refine Hu 4 7 hS ?_;simp only [SL];refine Hv 5 8 ?va5x5 hS ?ha5x5 ?_
 case ha5x5 =>
  intro w9 s9;have k9:=HC.out _ s9;obtain ⟨⟨q0,q1,q2,q3⟩,_⟩:=aG k9;clear s9;go_simp;try (with_reducible rfl)
 simp only [SL];refine Hu 6 9 hS ?_;simp only [SL];refine Hu 9 12 hS ?_;simp only [SL];refine Hv 10 13 ?va10x8 hS ?ha10x8 ?_
 case ha10x8 =>
  intro w9 s9;have k9:=HC.out _ s9;obtain ⟨⟨q0,q1,q2,q3⟩,_⟩:=aG k9;clear s9;go_simp;try (with_reducible rfl)
 simp only [SL];refine Hu 13 16 hS ?_;simp only [SL];refine Hv 14 17 ?va14x10 hS ?ha14x10 ?_
 case ha14x10 =>
  intro w9 s9;have k9:=HC.out _ s9;obtain ⟨⟨q0,q1,q2,q3⟩,_⟩:=aG k9;clear s9;go_simp;try (with_reducible rfl)
 simp only [SL];refine Hu 15 18 hS ?_;simp only [SL];refine Hs 3 (fun K HK=>?_);go_simp;go_wp2_with fail;refine (kQ _ _ x _ (by omega) Hx.out).mono ?_;rintro e w6 ⟨rfl,b6⟩;refine HK.out _ _ ?_ ?_
 ·exact chain hS b6
 clear HK K;try simp only [Act.put,SL]
 have hS9:=chain hS b6;clear hS b6;have hS:=hS9;clear hS9;refine Hs 7 (fun K HK=>?_);go_simp;go_wp2_with fail;refine (kQ _ _ y _ (by omega) Hy.out).mono ?_;rintro e w6 ⟨rfl,b6⟩;refine HK.out _ _ ?_ ?_
 ·exact chain hS b6
 clear HK K;try simp only [Act.put,SL]
 have hS9:=chain hS b6;clear hS b6;have hS:=hS9;clear hS9;refine Hu 8 11 hS ?_;simp only [SL];refine Hs 11 (fun K HK=>?_);go_simp;go_wp2_with fail;refine (kQ _ _ z _ (by omega) Hz.out).mono ?_;rintro e w6 ⟨rfl,b6⟩;refine HK.out _ _ ?_ ?_
 ·exact chain hS b6
 clear HK K;try simp only [Act.put,SL]
 have hS9:=chain hS b6;clear hS b6;have hS:=hS9;clear hS9;refine Hu 12 15 hS ?_;simp only [SL];refine Hs 16 (fun K HK=>?_);go_simp;go_wp2_with fail;refine (kQ _ _ u _ (by omega) Hq.out).mono ?_;rintro e w6 ⟨rfl,b6⟩;refine HK.out _ _ ?_ ?_
 ·exact chain hS b6
 clear HK K;try simp only [Act.put,SL]
 have hS9:=chain hS b6;clear hS b6;have hS:=hS9;clear hS9;refine Hu 17 20 hS ?_;simp only [SL];refine Hu 18 2 hS ?_;simp only [SL];refine wpAnyH_done (by kernel_rfl) ?_ _;have FIN:=HB.out _ hS;clear hS;have FIN:=Hd FIN;go_wp2_with fail;go_ret;exact ⟨by rw [← HV.out]; rfl,FIN.out⟩
theorem aA5 (s ep nn k:Int)(key:ByteArray)(w:World)(hk:fF s ep k=false) :
  Calls Tryz.prog 26 #[.agg #[.int .i64 s,.int .i64 ep,.int .u64 nn,.int .i64 k],.string key] w fun e w' => e=.returned (.tuple #[.string ⟨#[]⟩,.int .i64 1])∧Below w.heap.size w w' := by
 have RG:=Hd (fun w=>iP s ep nn k false w hk);clear hk;obtain ⟨x1,hx1⟩:∃ x1,w.alloc (.cells #[.int .i64 s,.int .i64 ep,.int .u64 nn,.int .i64 k] 48)=x1:=⟨_,rfl⟩
 obtain ⟨q1,q2,q3⟩:=aV hx1 rfl;obtain ⟨⟨c0,c1,c2,c3⟩,_⟩:=aG q2;have X1:=Hd hx1;have Q3:=Hd q3;clear hx1 q1 q2 q3;go_enter Tryz.func26,Tryz.ntmps26;go_upto_region 1 with fail
 rw [X1.out];go_wp2_with fail;refine (RG.out _).mono ?_;rintro e w2 ⟨rfl,b2⟩;have B2:=Hd (chain Q3.out b2);clear b2 c0 c1 c2 c3;go_wp2_with fail;go_ret2;exact ⟨rfl,B2.out⟩
theorem CF (s ep nn k:Int)(key v:ByteArray)(w:World)(hk:fF s ep k=true)(n0:0 ≤ nn)(n1:nn ≤ 18446744073709551615)(hkey:key.size ≤ 140737488351232)(hv:cM s ep nn k key=v) :
  Calls Tryz.prog 26 #[.agg #[.int .i64 s,.int .i64 ep,.int .u64 nn,.int .i64 k],.string key] w fun e w' => e=.returned (.tuple #[.string v,.int .i64 0])∧Below w.heap.size w w' := by
 have hb:=oT hk n0 n1;have RG:=Hd (fun w=>iP s ep nn k true w hk);obtain ⟨b,hbb⟩:∃ b,hB s ep nn k=b:=⟨_,rfl⟩
 have BG:=Hd (fun w=>CG s ep nn k b w hk n0 n1 hbb);unfold cM at hv;rw [hbb] at hv hb;obtain ⟨g,hg⟩:∃ g,lC key b=g:=⟨_,rfl⟩
 have hgs:=lZ key b;rw [hg] at hv hgs;have TG:=Hd (fun w=>by have:=SX key b w hkey (by omega); unfold lC at hg; rw [hg] at this; exact this);have HV:=Hd hv;have s1:(9223372036854775807 < b.size + g.size)=False:=by rw [eq_iff_iff,iff_false]; omega
 clear hk n0 n1 hkey hv hbb hg hb hgs;obtain ⟨x1,hx1⟩:∃ x1,w.alloc (.cells #[.int .i64 s,.int .i64 ep,.int .u64 nn,.int .i64 k] 48)=x1:=⟨_,rfl⟩
 obtain ⟨q1,q2,q3⟩:=aV hx1 rfl;obtain ⟨⟨c0,c1,c2,c3⟩,_⟩:=aG q2;have X1:=Hd hx1;have Q2:=Hd q2;have Q3:=Hd q3;clear hx1 q1 q2 q3;go_enter Tryz.func26,Tryz.ntmps26;go_upto_region 1 with fail
 rw [X1.out];go_wp2_with fail;refine (RG.out _).mono ?_;rintro e w2 ⟨rfl,b2⟩;clear c0 c1 c2 c3;obtain ⟨⟨c0,c1,c2,c3⟩,_⟩:=aG (bG Q2.out b2);have B2:=Hd (chain Q3.out b2);clear b2;go_wp2_with fail;refine (BG.out _).mono ?_;rintro e w3 ⟨rfl,b3⟩;have B3:=Hd (chain B2.out b3);clear b3 c0 c1 c2 c3;go_wp2_with fail;refine (TG.out _).mono ?_;rintro e w4 ⟨rfl,b4⟩;have B4:=Hd (chain B3.out b4);clear b4;go_wp2_with fail;go_ret2;exact ⟨by rw [← HV.out]; rfl,B4.out⟩
theorem fG:(Tryz.prog.info? 48).map (·.size)=some 4:=by kernel_rfl
theorem cJ {P:Program} {fn:Func} {p u v:Tmp} {ty:TypeId} (h:fn.results=#[.cell p ty,.tmp u,.tmp v])(tmps:Array Value)(w:World)(g:Nat)(t:TypeId)(cs:Array Value)(fr:Nat × Nat)(d:TypeDesc)(x y:Value)
  (hp:tmps.getD p undef=.pointer (some ⟨g,0,none⟩))(hx:tmps.getD u undef=x)(hy:tmps.getD v undef=y)(hg:w.heap[g]?=some (.cells cs t fr))
  (hu:P.underlying ty=some d)(hd:(match d with | .struct _ | .array _ _=>true | _=>false)=true)(hi:(P.info? ty).map (·.size)=some cs.size) :
  (results fn tmps).run P w=.ok (.tuple #[.agg cs,x,y]) w:=by
 have e:(results fn tmps).run P w=(((asAddr (tmps.getD p undef)).run P w).andThen fun a w₁=>(loadVar ty a).run P w₁).andThen fun z w₂=>.ok (.tuple #[z,tmps.getD u undef,tmps.getD v undef]) w₂:=by
  simp only [results,h];simp [Sem.run_bind,Result.andThen];generalize Sem.run P (asAddr (tmps[p]?.getD undef)) w=r
  cases r with
  | ok a w1 =>
   dsimp only
  | halt x w1=>rfl
 rw [e,hp,hx,hy];simp [asAddr,run_loadVar_row w g t ty cs fr d hg hu hd hi,Result.andThen]
theorem IJ (s:ByteArray)(vs ve vn vk:Int)(r1 r2 r3 r4:ByteArray)(w:World)(hs:s.size=29)(hvs:hfS s=vs)(hve:hfE s=ve)(hvn:hfN s=vn)(hvk:hfK s=vk)(hr1' : hr1 s=r1)(hr2' : hr2 s=r2)(hr3' : hr3 s=r3)(hr4' : hr4 s=r4)(hok:fF vs ve vk=false) :
  Calls Tryz.prog 28 #[.string s] w fun e w' => e=.returned (.tuple #[.agg #[.int .i64 0,.int .i64 0,.int .u64 0,.int .i64 0],.string ⟨#[]⟩,.int .i64 2])∧Below w.heap.size w w' := by
 obtain ⟨⟨l1,l2⟩,⟨l3,l4⟩,⟨l5,l6⟩,⟨l7,l8⟩⟩:=jZ s;rw [hvs] at l1 l2;rw [hve] at l3 l4;rw [hvn] at l5 l6;rw [hvk] at l7 l8;have c1:IntKind.i64.wrap vs=vs:=IntWalk.i64_in _ (by omega);have c2:IntKind.i64.wrap ve=ve:=IntWalk.i64_in _ (by omega);have c3:IntKind.i64.wrap vk=vk:=IntWalk.i64_in _ (by omega);have RG:=Hd (fun w=>iP vs ve vn vk _ w hok);unfold hfS at hvs;unfold hr1 at hr1';unfold hfE hr1 at hve;unfold hr2 hr1 at hr2';unfold hfN hr2 hr1 at hvn;unfold hr3 hr2 hr1 at hr3';unfold hfK hr3 hr2 hr1 at hvk;unfold hr4 hr3 hr2 hr1 at hr4'
 have T1:=Hd (fun w=>by have:=dQ s 2 w; rw [show aC s 2=vs from hvs,show aA s 2=r1 from hr1'] at this; exact this);have T2:=Hd (fun w=>by have:=dQ r1 1 w; rw [← hr1', show aC (aA s 2) 1=ve from hve,show aA (aA s 2) 1=r2 from hr2', hr1'] at this; exact this);have T3:=Hd (fun w=>by have:=dQ r2 8 w; rw [← hr2', show aC (aA (aA s 2) 1) 8=vn from hvn,show aA (aA (aA s 2) 1) 8=r3 from hr3', hr2'] at this; exact this)
 have T4:=Hd (fun w=>by have:=dQ r3 2 w; rw [← hr3', show aC (aA (aA (aA s 2) 1) 8) 2=vk from hvk,show aA (aA (aA (aA s 2) 1) 8) 2=r4 from hr4', hr3'] at this; exact this);obtain ⟨g1,g2,g3⟩:True∧True∧True:=⟨trivial,trivial,trivial⟩
 have e29:(s.size:Int)=29:=by omega
 obtain ⟨r,hr⟩:∃ r,w.heap.size=r:=⟨_,rfl⟩
 obtain ⟨x1,hx1⟩:∃ x1,w.alloc (.cells #[.int .i64 0,.int .i64 0,.int .u64 0,.int .i64 0] 48)=x1:=⟨_,rfl⟩
 obtain ⟨q1,q2,q3⟩:=aV hx1 hr;have X1:=Hd hx1;have HR:Hid (w.heap.size ≤ r):=Hd (by omega);have Q2:=Hd q2;have Q3:=Hd q3;clear hx1 q1 q2 q3;clear hs hvs hve hvn hvk hr1' hr2' hr3' hr4' hok l1 l2 l3 l4 l5 l6 l7 l8 g1 g2 g3;go_enter Tryz.func28,Tryz.ntmps28;go_upto_region 1 with fail
 rw [X1.out];go_wp2_with fail;refine (T1.out _).mono ?_;rintro e w2 ⟨rfl,b2⟩;go_wp2_with fail;refine (T2.out _).mono ?_;rintro e w3 ⟨rfl,b3⟩;go_wp2_with fail;refine (T3.out _).mono ?_;rintro e w4 ⟨rfl,b4⟩;go_wp2_with fail;refine (T4.out _).mono ?_;rintro e w5 ⟨rfl,b5⟩;have m5:=bG (bG (bG (bG Q2.out b2) b3) b4) b5;have B5:=Hd (chain (chain (chain (chain Q3.out b2) b3) b4) b5);obtain ⟨⟨y0,y1,y2,y3⟩,u0,u1,u2,u3⟩:=aG m5;obtain ⟨n1,n2⟩:=set4 m5 (.int .i64 vs)(.int .i64 ve)(.int .u64 vn)(.int .i64 vk)
 have G6:=Hd (And.intro n1 (B5.out.trans (n2.below (fun k hk=>by rw [hk]; exact HR.out) B5.out.size)));obtain ⟨w6,hw6⟩:∃ w6,st4 w5 r (.int .i64 vs)(.int .i64 ve)(.int .u64 vn)(.int .i64 vk)=w6:=⟨_,rfl⟩
 rw [hw6] at G6;unfold st4 at hw6;have HW6:=Hd hw6;clear b2 b3 b4 b5 m5 n1 n2 B5 T1 T2 T3 T4 hw6;go_upto_region 8 with fail
 rw [HW6.out];clear y0 y1 y2 y3 u0 u1 u2 u3;obtain ⟨⟨y0,y1,y2,y3⟩,u0,u1,u2,u3⟩:=aG G6.out.1;go_wp2_with fail;refine (RG.out _).mono ?_;rintro e w7 ⟨rfl,b7⟩;have m7:=bG G6.out.1 b7;have B7:=Hd (chain G6.out.2 b7);clear y0 y1 y2 y3 u0 u1 u2 u3 b7;obtain ⟨n1,n2⟩:=set4 m7 (.int .i64 0)(.int .i64 0)(.int .u64 0)(.int .i64 0);obtain ⟨⟨y0,y1,y2,y3⟩,u0,u1,u2,u3⟩:=aG m7
 have FIN:Hid ((st4 w7 r (.int .i64 0)(.int .i64 0)(.int .u64 0)(.int .i64 0)).heap[r]?=some (.cells #[.int .i64 0,.int .i64 0,.int .u64 0,.int .i64 0] 48)∧Below w.heap.size w (st4 w7 r (.int .i64 0)(.int .i64 0)(.int .u64 0)(.int .i64 0))):=Hd ⟨n1,B7.out.trans (n2.below (fun k hk=>by rw [hk]; exact HR.out) B7.out.size)⟩;unfold st4 at FIN;clear n1 n2 m7;go_wp2_with fail
 exact bodyPost_ret (v:=.tuple #[.agg #[.int .i64 0,.int .i64 0,.int .u64 0,.int .i64 0],.string ⟨#[]⟩,.int .i64 2])(cJ (fn:=Tryz.f28) rfl _ _ r 48 _ (0,0) _ _ _ rfl rfl rfl FIN.out.1 Tryz.underlying48 rfl fG) rfl ⟨rfl,FIN.out.2⟩
theorem CD (s:ByteArray)(vs ve vn vk:Int)(r1 r2 r3 r4:ByteArray)(w:World)(hs:s.size=29)(hvs:hfS s=vs)(hve:hfE s=ve)(hvn:hfN s=vn)(hvk:hfK s=vk)(hr1' : hr1 s=r1)(hr2' : hr2 s=r2)(hr3' : hr3 s=r3)(hr4' : hr4 s=r4)(hok:fF vs ve vk=true) :
  Calls Tryz.prog 28 #[.string s] w fun e w' => e=.returned (.tuple #[.agg #[.int .i64 vs,.int .i64 ve,.int .u64 vn,.int .i64 vk],.string r4,.int .i64 0])∧Below w.heap.size w w' := by
 obtain ⟨⟨l1,l2⟩,⟨l3,l4⟩,⟨l5,l6⟩,⟨l7,l8⟩⟩:=jZ s;rw [hvs] at l1 l2;rw [hve] at l3 l4;rw [hvn] at l5 l6;rw [hvk] at l7 l8;have c1:IntKind.i64.wrap vs=vs:=IntWalk.i64_in _ (by omega);have c2:IntKind.i64.wrap ve=ve:=IntWalk.i64_in _ (by omega);have c3:IntKind.i64.wrap vk=vk:=IntWalk.i64_in _ (by omega);have RG:=Hd (fun w=>iP vs ve vn vk _ w hok);unfold hfS at hvs;unfold hr1 at hr1';unfold hfE hr1 at hve;unfold hr2 hr1 at hr2';unfold hfN hr2 hr1 at hvn;unfold hr3 hr2 hr1 at hr3';unfold hfK hr3 hr2 hr1 at hvk;unfold hr4 hr3 hr2 hr1 at hr4'
 have T1:=Hd (fun w=>by have:=dQ s 2 w; rw [show aC s 2=vs from hvs,show aA s 2=r1 from hr1'] at this; exact this);have T2:=Hd (fun w=>by have:=dQ r1 1 w; rw [← hr1', show aC (aA s 2) 1=ve from hve,show aA (aA s 2) 1=r2 from hr2', hr1'] at this; exact this);have T3:=Hd (fun w=>by have:=dQ r2 8 w; rw [← hr2', show aC (aA (aA s 2) 1) 8=vn from hvn,show aA (aA (aA s 2) 1) 8=r3 from hr3', hr2'] at this; exact this)
 have T4:=Hd (fun w=>by have:=dQ r3 2 w; rw [← hr3', show aC (aA (aA (aA s 2) 1) 8) 2=vk from hvk,show aA (aA (aA (aA s 2) 1) 8) 2=r4 from hr4', hr3'] at this; exact this);obtain ⟨g1,g2,g3⟩:True∧True∧True:=⟨trivial,trivial,trivial⟩
 have e29:(s.size:Int)=29:=by omega
 obtain ⟨r,hr⟩:∃ r,w.heap.size=r:=⟨_,rfl⟩
 obtain ⟨x1,hx1⟩:∃ x1,w.alloc (.cells #[.int .i64 0,.int .i64 0,.int .u64 0,.int .i64 0] 48)=x1:=⟨_,rfl⟩
 obtain ⟨q1,q2,q3⟩:=aV hx1 hr;have X1:=Hd hx1;have HR:Hid (w.heap.size ≤ r):=Hd (by omega);have Q2:=Hd q2;have Q3:=Hd q3;clear hx1 q1 q2 q3;clear hs hvs hve hvn hvk hr1' hr2' hr3' hr4' hok l1 l2 l3 l4 l5 l6 l7 l8 g1 g2 g3;go_enter Tryz.func28,Tryz.ntmps28;go_upto_region 1 with fail
 rw [X1.out];go_wp2_with fail;refine (T1.out _).mono ?_;rintro e w2 ⟨rfl,b2⟩;go_wp2_with fail;refine (T2.out _).mono ?_;rintro e w3 ⟨rfl,b3⟩;go_wp2_with fail;refine (T3.out _).mono ?_;rintro e w4 ⟨rfl,b4⟩;go_wp2_with fail;refine (T4.out _).mono ?_;rintro e w5 ⟨rfl,b5⟩;have m5:=bG (bG (bG (bG Q2.out b2) b3) b4) b5;have B5:=Hd (chain (chain (chain (chain Q3.out b2) b3) b4) b5);obtain ⟨⟨y0,y1,y2,y3⟩,u0,u1,u2,u3⟩:=aG m5;obtain ⟨n1,n2⟩:=set4 m5 (.int .i64 vs)(.int .i64 ve)(.int .u64 vn)(.int .i64 vk)
 have G6:=Hd (And.intro n1 (B5.out.trans (n2.below (fun k hk=>by rw [hk]; exact HR.out) B5.out.size)));obtain ⟨w6,hw6⟩:∃ w6,st4 w5 r (.int .i64 vs)(.int .i64 ve)(.int .u64 vn)(.int .i64 vk)=w6:=⟨_,rfl⟩
 rw [hw6] at G6;unfold st4 at hw6;have HW6:=Hd hw6;clear b2 b3 b4 b5 m5 n1 n2 B5 T1 T2 T3 T4 hw6;go_upto_region 8 with fail
 rw [HW6.out];clear y0 y1 y2 y3 u0 u1 u2 u3;obtain ⟨⟨y0,y1,y2,y3⟩,u0,u1,u2,u3⟩:=aG G6.out.1;go_wp2_with fail;refine (RG.out _).mono ?_;rintro e w7 ⟨rfl,b7⟩;have m7:=bG G6.out.1 b7;have B7:=Hd (chain G6.out.2 b7);clear y0 y1 y2 y3 u0 u1 u2 u3 b7;obtain ⟨n1,n2⟩:=set4 m7 (.int .i64 vs)(.int .i64 ve)(.int .u64 vn)(.int .i64 vk);obtain ⟨⟨y0,y1,y2,y3⟩,u0,u1,u2,u3⟩:=aG m7
 have FIN:Hid ((st4 w7 r (.int .i64 vs)(.int .i64 ve)(.int .u64 vn)(.int .i64 vk)).heap[r]?=some (.cells #[.int .i64 vs,.int .i64 ve,.int .u64 vn,.int .i64 vk] 48)∧Below w.heap.size w (st4 w7 r (.int .i64 vs)(.int .i64 ve)(.int .u64 vn)(.int .i64 vk))):=Hd ⟨n1,B7.out.trans (n2.below (fun k hk=>by rw [hk]; exact HR.out) B7.out.size)⟩;unfold st4 at FIN;clear n1 n2 m7;go_wp2_with fail
 exact bodyPost_ret (v:=.tuple #[.agg #[.int .i64 vs,.int .i64 ve,.int .u64 vn,.int .i64 vk],.string r4,.int .i64 0])(cJ (fn:=Tryz.f28) rfl _ _ r 48 _ (0,0) _ _ _ rfl rfl rfl FIN.out.1 Tryz.underlying48 rfl fG) rfl ⟨rfl,FIN.out.2⟩
theorem II (s:ByteArray)(w:World)(hs:s.size ≠ 29) :
  Calls Tryz.prog 28 #[.string s] w fun e w' => e=.returned (.tuple #[.agg #[.int .i64 0,.int .i64 0,.int .u64 0,.int .i64 0],.string ⟨#[]⟩,.int .i64 2])∧Below w.heap.size w w' := by
 have e29:¬ (s.size:Int)=29:=by omega
 obtain ⟨r,hr⟩:∃ r,w.heap.size=r:=⟨_,rfl⟩
 obtain ⟨x1,hx1⟩:∃ x1,w.alloc (.cells #[.int .i64 0,.int .i64 0,.int .u64 0,.int .i64 0] 48)=x1:=⟨_,rfl⟩
 obtain ⟨q1,q2,q3⟩:=aV hx1 hr;have X1:=Hd hx1;have HR:Hid (w.heap.size ≤ r):=Hd (by omega);have Q2:=Hd q2;have Q3:=Hd q3;clear hx1 q1 q2 q3;clear hs;go_enter Tryz.func28,Tryz.ntmps28;go_upto_region 1 with fail
 rw [X1.out];obtain ⟨n1,n2⟩:=set4 Q2.out (.int .i64 0)(.int .i64 0)(.int .u64 0)(.int .i64 0);obtain ⟨⟨y0,y1,y2,y3⟩,u0,u1,u2,u3⟩:=aG Q2.out;have FIN:Hid ((st4 x1 r (.int .i64 0)(.int .i64 0)(.int .u64 0)(.int .i64 0)).heap[r]?=some (.cells #[.int .i64 0,.int .i64 0,.int .u64 0,.int .i64 0] 48)∧Below w.heap.size w (st4 x1 r (.int .i64 0)(.int .i64 0)(.int .u64 0)(.int .i64 0))):=Hd ⟨n1,Q3.out.trans (n2.below (fun k hk=>by rw [hk]; exact HR.out) Q3.out.size)⟩;unfold st4 at FIN;clear n1 n2;go_wp2_with fail
 exact bodyPost_ret (v:=.tuple #[.agg #[.int .i64 0,.int .i64 0,.int .u64 0,.int .i64 0],.string ⟨#[]⟩,.int .i64 2])(cJ (fn:=Tryz.f28) rfl _ _ r 48 _ (0,0) _ _ _ rfl rfl rfl FIN.out.1 Tryz.underlying48 rfl fG) rfl ⟨rfl,FIN.out.2⟩
theorem CB (s:ByteArray)(w:World)(h:hOk s=false) :
  Calls Tryz.prog 28 #[.string s] w fun e w' => e=.returned (.tuple #[.agg #[.int .i64 0,.int .i64 0,.int .u64 0,.int .i64 0],.string ⟨#[]⟩,.int .i64 2])∧Below w.heap.size w w' := by
 by_cases hs:s.size=29
 ·refine IJ s _ _ _ _ _ _ _ _ w hs rfl rfl rfl rfl rfl rfl rfl rfl ?_
  unfold hOk at h;rw [hs] at h
  simpa using h
 ·exact II s w hs
theorem vL (s:ByteArray)(w:World)(h:hOk s=true) :
  Calls Tryz.prog 28 #[.string s] w fun e w' => e=.returned (.tuple #[.agg #[.int .i64 (hfS s),.int .i64 (hfE s),.int .u64 (hfN s),.int .i64 (hfK s)],.string (hr4 s),.int .i64 0])∧Below w.heap.size w w' := by
 unfold hOk at h;simp only [Bool.and_eq_true,decide_eq_true_eq] at h;exact CD s _ _ _ _ _ _ _ _ w h.1 rfl rfl rfl rfl rfl rfl rfl rfl h.2
theorem nI (s ep nn k:Int)(tag key:ByteArray)(v:Bool)(w:World)(hk:fF s ep k=true)(n0:0 ≤ nn)(n1:nn ≤ 18446744073709551615)(hkey:key.size ≤ 140737488351232)(htag:tag.size ≤ 140737488355328)(hv:decide (tag=lC key (hB s ep nn k))=v) :
  Calls Tryz.prog 30 #[.agg #[.int .i64 s,.int .i64 ep,.int .u64 nn,.int .i64 k],.string tag,.string key] w fun e w' => e=.returned (.bool v)∧Below w.heap.size w w' := by
 have hb:=oT hk n0 n1;have RG:=Hd (fun w=>iP s ep nn k true w hk);obtain ⟨b,hbb⟩:∃ b,hB s ep nn k=b:=⟨_,rfl⟩
 have BG:=Hd (fun w=>CG s ep nn k b w hk n0 n1 hbb);rw [hbb] at hv hb;obtain ⟨g,hg⟩:∃ g,lC key b=g:=⟨_,rfl⟩
 have hgs:=lZ key b;rw [hg] at hv hgs;have TG:=Hd (fun w=>by have:=SX key b w hkey (by omega); unfold lC at hg; rw [hg] at this; exact this);have SG:=Hd (fun w=>by have:=ZP tag g w (by omega)(by omega); rw [hv] at this; exact this);clear hk n0 n1 hkey htag hv hbb hg hb hgs;obtain ⟨x1,hx1⟩:∃ x1,w.alloc (.cells #[.int .i64 s,.int .i64 ep,.int .u64 nn,.int .i64 k] 48)=x1:=⟨_,rfl⟩
 obtain ⟨q1,q2,q3⟩:=aV hx1 rfl;obtain ⟨⟨c0,c1,c2,c3⟩,_⟩:=aG q2;have X1:=Hd hx1;have Q2:=Hd q2;have Q3:=Hd q3;clear hx1 q1 q2 q3;go_enter Tryz.func30,Tryz.ntmps30;go_upto_region 1 with fail
 rw [X1.out];go_wp2_with fail;refine (RG.out _).mono ?_;rintro e w2 ⟨rfl,b2⟩;clear c0 c1 c2 c3;obtain ⟨⟨c0,c1,c2,c3⟩,_⟩:=aG (bG Q2.out b2);have B2:=Hd (chain Q3.out b2);clear b2;go_wp2_with fail;refine (BG.out _).mono ?_;rintro e w3 ⟨rfl,b3⟩;have B3:=Hd (chain B2.out b3);clear b3 c0 c1 c2 c3;go_wp2_with fail;refine (TG.out _).mono ?_;rintro e w4 ⟨rfl,b4⟩;have B4:=Hd (chain B3.out b4);clear b4;go_wp2_with fail;refine (SG.out _).mono ?_;rintro e w5 ⟨rfl,rfl⟩;go_wp2_with fail;go_ret;exact ⟨rfl,B4.out⟩
theorem vN (s ep nn k:Int)(tag key:ByteArray)(w:World)(hk:fF s ep k=false) :
  Calls Tryz.prog 30 #[.agg #[.int .i64 s,.int .i64 ep,.int .u64 nn,.int .i64 k],.string tag,.string key] w fun e w' => e=.returned (.bool false)∧Below w.heap.size w w' := by
 have RG:=Hd (fun w=>iP s ep nn k false w hk);clear hk;obtain ⟨x1,hx1⟩:∃ x1,w.alloc (.cells #[.int .i64 s,.int .i64 ep,.int .u64 nn,.int .i64 k] 48)=x1:=⟨_,rfl⟩
 obtain ⟨q1,q2,q3⟩:=aV hx1 rfl;obtain ⟨⟨c0,c1,c2,c3⟩,_⟩:=aG q2;have X1:=Hd hx1;have Q3:=Hd q3;clear hx1 q1 q2 q3;go_enter Tryz.func30,Tryz.ntmps30;go_upto_region 1 with fail
 rw [X1.out];go_wp2_with fail;refine (RG.out _).mono ?_;rintro e w2 ⟨rfl,b2⟩;have B2:=Hd (chain Q3.out b2);clear b2 c0 c1 c2 c3;go_wp2_with fail;go_ret;exact ⟨rfl,B2.out⟩
def byR (v:Int)(a b:ByteArray)(k:Int)(ky:ByteArray)(is:Bool):Prop:=(k=v∧ky=a∧is=true) ∨ (k ≠ v∧k=v - 1∧ky=b∧is=true) ∨ (k ≠ v∧k ≠ v - 1∧ky=⟨#[]⟩∧is=false)
theorem VL {w0 w:World} {R:List Nat} {t d s n:Nat} {E E' : List Ent} {c:ByteArray} {x e y:Int} (h:TxS w0 R w t d s n E)(he:(e=0∧y=x) ∨ (e ≠ 0∧y=0))
  (HC:∀ (R' : List Nat)(wa:World)(b0 b1:Nat),TxS w0 R' wa t d s n E → (wa.heap[b0]?=some (.cells #[.pointer (some ⟨t,0,none⟩)] 24)) → (wa.heap[b1]?=some (.cells #[.string c] 9)) → ((b0 ∈ R'∧b0 ≠ t)∧(b1 ∈ R'∧b1 ≠ t)) → Calls Tryz.prog 78 #[.pointer (some ⟨b1,0,none⟩),.pointer (some ⟨b0,0,none⟩)] wa fun e' w' => e'=.returned (.tuple #[.int .i64 x,.int .i64 e])∧TxS w0 R' w' t d s n E'∧KeptT R' t wa w') :
  Calls Tryz.prog 37 #[.pointer (some ⟨t,0,none⟩),.string c] w fun e' w' => e'=.returned (.tuple #[.int .i64 y,.int .i64 e])∧TxS w0 R w' t d s n E'∧KeptT R t w w' := by
 obtain ⟨a1,a2,a3,a4,a5,a6,a7⟩:=h.box (.cells #[.pointer (some ⟨t,0,none⟩)] 24);obtain ⟨x1,hx1⟩:∃ x1,w.alloc (.cells #[.pointer (some ⟨t,0,none⟩)] 24)=x1:=⟨_,rfl⟩
 rw [hx1] at a1 a2 a3 a5;obtain ⟨b1,b2,b3,b4,b5,b6,b7⟩:=a1.box (.cells #[.string c] 9);obtain ⟨x2,hx2⟩:∃ x2,x1.alloc (.cells #[.string c] 9)=x2:=⟨_,rfl⟩
 rw [hx2] at b1 b2 b3 b5;rw [a5] at b1 b3 b4 b5 b6 b7;have hkw:KeptT R t w x2:=a2.trans (b2.sub (fun k hk=>by simp [hk]))
 have VC:=Hd (pT (hk:=fun w=>by kernel_rfl)(n:=n)(E' := E')(x:=x)(e:=e)(y:=y)(caps:=#[.pointer (some ⟨w.heap.size + 1,0,none⟩),.pointer (some ⟨w.heap.size,0,none⟩)]) b1 he (fun R' wa hs hT hK=>HC R' wa (w.heap.size)(w.heap.size + 1) hT ((hK (w.heap.size)(by simp) a4).trans ((b2 (w.heap.size)(by simp) a4).trans (a3)))((hK (w.heap.size + 1)(by simp) b4).trans (b3)) ⟨⟨hs (w.heap.size)(by simp),a4⟩,⟨hs (w.heap.size + 1)(by simp),b4⟩⟩));have KP:=Hd hkw;have bx:=(aM ((b2 (w.heap.size)(by simp) a4).trans (a3))).1;have X1:=Hd (And.intro hx1 hx2)
 clear h he HC hkw a1 a2 a3 a4 a5 a6 a7 b1 b2 b3 b4 b5 b6 b7 hx1 hx2;go_enter Tryz.func37,Tryz.ntmps37;go_upto_region 1 with fail
 try simp only [World.heap_size_alloc]
 rw [X1.out.1,X1.out.2];go_wp2_with fail;refine VC.out.mono ?_;rintro e' w2 ⟨rfl,h1,h2⟩;have FIN:Hid (TxS w0 R w2 t d s n E'∧KeptT R t w w2):=Hd ⟨h1.sub (fun k hk=>by simp [hk]),KP.out.trans (h2.sub (fun k hk=>by simp [hk]))⟩;clear h1 h2 VC bx;go_wp2_with fail;go_ret2;exact ⟨rfl,FIN.out⟩
theorem aDA (v k:Int)(a b ky:ByteArray)(is:Bool)(w:World)(hv:0 ≤ v∧v ≤ 65535)(h:byR v a b k ky is) :
  Calls Tryz.prog 79 #[.agg #[.int .i64 v,.string a,.string b],.int .i64 k] w fun e w' => e=.returned (.tuple #[.string ky,.bool is])∧Below w.heap.size w w' := by
 obtain ⟨x1,hx1⟩:∃ x1,w.alloc (.cells #[.int .i64 v,.string a,.string b] 115)=x1:=⟨_,rfl⟩
 obtain ⟨q1,q2,q3⟩:=aV hx1 rfl;obtain ⟨⟨c0,c1,c2⟩,_⟩:=gI q2;have X1:=Hd hx1;have Q3:=Hd q3;obtain ⟨u,hu⟩:∃ u,v - 1=u:=⟨_,rfl⟩
 have hw:IntKind.i64.wrap (v - 1)=u:=(IntWalk.i64_in _ (by omega)).trans hu;have hw2:wrap64 (v - 1)=u:=(IntWalk.wrap64_in _ (by omega)).trans hu;unfold byR at h;rw [hu] at h;have HU:=Hd hu;clear hx1 q1 q2 q3 hv hu
 rcases h with ⟨rfl,rfl,rfl⟩ | ⟨h1,rfl,rfl,rfl⟩ | ⟨h1,h2,rfl,rfl⟩
 ·clear hw hw2
  go_enter Tryz.func79,Tryz.ntmps79;go_upto_region 1 with fail
  rw [X1.out];go_wp2_with fail;go_ret2;exact ⟨rfl,Q3.out⟩
 ·have g1:(k == v)=false:=by simpa using h1
  clear h1;go_enter Tryz.func79,Tryz.ntmps79;go_upto_region 1 with fail
  rw [X1.out];go_wp2_with fail;go_ret2;exact ⟨rfl,Q3.out⟩
 ·have g1:(k == v)=false:=by simpa using h1
  have g2:(k == u)=false:=by simpa using h2
  clear h1 h2;go_enter Tryz.func79,Tryz.ntmps79;go_upto_region 1 with fail
  rw [X1.out];go_wp2_with fail;go_ret2;exact ⟨rfl,Q3.out⟩
def aB6 (x:Int × Int × Int)(ep nn c e:Int):Prop:=(ep < x.2.1∧c=0∧e=10) ∨ (¬ ep < x.2.1∧x.1=0∧c=0∧e=10) ∨ (x.2.1=ep∧x.2.2=nn∧x.1 ≠ 0∧c=x.1∧e=0)
theorem WP {w0 w:World} {R:List Nat} {t d s:Nat} {L:List (Int × Int × Int)} {M:List Ent} {i:Nat} {x:Int × Int × Int} {sl ep nn k c e:Int} (h:TxS w0 R w t d s 640 (slE 0 L ++ M))(hL:SlL L)(hM:MtE M)(hx:L[i]?=some x)(hsl:sl=((i + 1:Nat):Int))(hr:aB6 x ep nn c e) :
  Calls Tryz.prog 80 #[.pointer (some ⟨t,0,none⟩),.agg #[.int .i64 sl,.int .i64 ep,.int .u64 nn,.int .i64 k]] w fun e' w' => e'=.returned (.tuple #[.int .i64 c,.int .i64 e])∧TxS w0 R w' t d s 640 (slE 0 L ++ M)∧KeptT R t w w' := by
 obtain ⟨a1,a2,a3,a4,a5,a6,a7⟩:=h.box (.cells #[.int .i64 sl,.int .i64 ep,.int .u64 nn,.int .i64 k] 48);obtain ⟨bh,hbh⟩:∃ r3,w.heap.size=r3:=⟨_,rfl⟩
 obtain ⟨x1,hx1⟩:∃ x1,w.alloc (.cells #[.int .i64 sl,.int .i64 ep,.int .u64 nn,.int .i64 k] 48)=x1:=⟨_,rfl⟩
 rw [hx1] at a1 a2 a3 a5;rw [hbh] at a1 a3 a4 a5 a6 a7;have X1:=Hd hx1;have A3:=Hd (And.intro a3 a4);have A2:=Hd a2;have AT:=aEG a1 hL hM hx;rw [← hsl] at AT;have AT:=Hd AT;obtain ⟨⟨y0,y1,y2,y3⟩,_⟩:=aG a3;have HR:=Hd hr;clear h hL hM hx hsl hr a1 a2 a3 a4 a5 a6 a7 hx1;go_enter Tryz.func80,Tryz.ntmps80;go_upto_region 1 with fail
 rw [X1.out];clear hbh;go_wp2_with fail;refine AT.out.mono ?_;rintro e' w3 ⟨rfl,h1,h2⟩;obtain ⟨c1,c2,c3,c4,c5,c6,c7⟩:=h1.box (.cells #[.int .i64 sl,.int .i64 x.1,.int .i64 x.2.1,.int .u64 x.2.2] 37);obtain ⟨bx,hbx⟩:∃ r3,w3.heap.size=r3:=⟨_,rfl⟩
 obtain ⟨x2,hx2⟩:∃ x1,w3.alloc (.cells #[.int .i64 sl,.int .i64 x.1,.int .i64 x.2.1,.int .u64 x.2.2] 37)=x1:=⟨_,rfl⟩
 rw [hx2] at c1 c2 c3 c5;rw [hbx] at c1 c3 c4 c5 c6 c7;have X2:=Hd (And.intro hx2 hbx);have m2:=(c2 bh (by simp) A3.out.2).trans ((h2 bh (by simp) A3.out.2).trans A3.out.1);have FIN:Hid (TxS w0 R x2 t d s 640 (slE 0 L ++ M)∧KeptT R t w x2):=Hd ⟨c1.sub (fun k hk=>by simp [hk]),A2.out.trans ((h2.sub (fun k hk=>by simp [hk])).trans (c2.sub (fun k hk=>by simp [hk])))⟩;clear y0 y1 y2 y3;obtain ⟨⟨y0,y1,y2,y3⟩,_⟩:=aG m2;obtain ⟨⟨z0,z1,z2,z3⟩,_⟩:=aG c3;obtain ⟨xc,xe,xn⟩:=x;clear h1 h2 AT c1 c2 c3 c4 c5 c6 c7 hx2 hbx m2;go_upto_region 4 with fail
 rw [X2.out.1,X2.out.2];clear X2
 rcases HR.out with ⟨g1,rfl,rfl⟩ | ⟨g1,g2,rfl,rfl⟩ | ⟨g1,g2,g3,rfl,rfl⟩
 ·have g1' : ep < xe:=g1
  clear g1 HR;go_wp2_with fail;go_ret2;exact ⟨rfl,FIN.out⟩
 ·have g1' : ¬ ep < xe:=g1
  have g2' : (xc == 0)=true:=by simpa using g2
  clear g1 g2 HR;go_wp2_with fail;go_ret2;exact ⟨rfl,FIN.out⟩
 ·have g1' : ¬ ep < xe:=by have:xe=ep:=g1; omega
  have g2' : (c == 0)=false:=by simpa using g3
  have g3' : (xe != ep)=false:=by have:xe=ep:=g1; simp [this]
  have g4' : (xn != nn)=false:=by have:xn=nn:=g2; simp [this]
  clear g1 g2 g3 HR;go_wp2_with fail;go_ret2;exact ⟨rfl,FIN.out⟩
theorem GJ {w0 w:World} {R:List Nat} {t d s n:Nat} {E:List Ent} {bs bt:Nat} {c:ByteArray} (h:TxS w0 R w t d s n E)(hs:w.heap[bs]?=some (.cells #[.string c] 9))(hb:w.heap[bt]?=some (.cells #[.pointer (some ⟨t,0,none⟩)] 24))(hm:(bs ∈ R∧bs ≠ t)∧(bt ∈ R∧bt ≠ t))(hc:hOk c=false) :
  Calls Tryz.prog 78 #[.pointer (some ⟨bs,0,none⟩),.pointer (some ⟨bt,0,none⟩)] w fun e w' => e=.returned (.tuple #[.int .i64 0,.int .i64 2])∧TxS w0 R w' t d s n E∧KeptT R t w w' := by
 have c0:=(aM hs).1;have TK:=Hd (fun w=>CB c w hc);have HT:=Hd h;clear h hs hb hm hc;go_enter Tryz.func78,Tryz.ntmps78;go_wp2_with fail;refine (TK.out _).mono ?_;rintro e w2 ⟨rfl,b2⟩;have h1:=HT.out.below b2;have k1:=HT.out.kept b2;obtain ⟨a1,a2,a3,a4,a5,a6,a7⟩:=h1.box (.cells #[.int .i64 0,.int .i64 0,.int .u64 0,.int .i64 0] 48);obtain ⟨bh,hbh⟩:∃ r3,w2.heap.size=r3:=⟨_,rfl⟩
 obtain ⟨x1,hx1⟩:∃ xx,w2.alloc (.cells #[.int .i64 0,.int .i64 0,.int .u64 0,.int .i64 0] 48)=xx:=⟨_,rfl⟩
 rw [hx1] at a1 a2 a3 a5;rw [hbh] at a1 a3 a4 a5 a6 a7;have Xx1:=Hd (And.intro hx1 hbh);have FIN:Hid (TxS w0 R x1 t d s n E∧KeptT R t w x1):=Hd ⟨a1.sub (fun k hk=>by simp [hk]),k1.trans a2⟩;clear b2 h1 k1 a1 a2 a3 a4 a5 a6 a7 hx1 hbh c0;go_upto_region 2 with fail
 rw [Xx1.out.1,Xx1.out.2];go_wp2_with fail;go_ret2;exact ⟨rfl,FIN.out⟩
def aB4 (w0:World)(t d s:Nat)(E:List Ent)(sl ep nn k:Int)(tg ky:ByteArray)(is:Bool)(c e:Int):Prop :=
 (is=false∧c=0∧e=3) ∨ (is=true∧tg ≠ lC ky (hB sl ep nn k)∧c=0∧e=15) ∨
 (is=true∧tg=lC ky (hB sl ep nn k)∧∀ R w,TxS w0 R w t d s 640 E → Calls Tryz.prog 80 #[.pointer (some ⟨t,0,none⟩),.agg #[.int .i64 sl,.int .i64 ep,.int .u64 nn,.int .i64 k]] w fun e' w' => e'=.returned (.tuple #[.int .i64 c,.int .i64 e])∧TxS w0 R w' t d s 640 E∧KeptT R t w w')
theorem VR {w0 w:World} {R:List Nat} {t d s:Nat} {E:List Ent} {bs bt:Nat} {c:ByteArray} {sl ep nn k:Int} {tg:ByteArray} {v:Int} {a b ky:ByteArray} {is:Bool} {rc re:Int} (h:TxS w0 R w t d s 640 E)(hs:w.heap[bs]?=some (.cells #[.string c] 9))(hb:w.heap[bt]?=some (.cells #[.pointer (some ⟨t,0,none⟩)] 24))(hm:(bs ∈ R∧bs ≠ t)∧(bt ∈ R∧bt ≠ t))(hc:hOk c=true)(hfs:hfS c=sl∧hfE c=ep∧hfN c=nn∧hfK c=k∧hr4 c=tg)(hE:E.length ≤ 600)(hr:RingE E v a b)(hky:byR v a b k ky is)(hks:ky.size ≤ 140737488351232)(hR:aB4 w0 t d s E sl ep nn k tg ky is rc re) :
  Calls Tryz.prog 78 #[.pointer (some ⟨bs,0,none⟩),.pointer (some ⟨bt,0,none⟩)] w fun e w' => e=.returned (.tuple #[.int .i64 rc,.int .i64 re])∧TxS w0 R w' t d s 640 E∧KeptT R t w w' := by
 have c0:=(aM hs).1;obtain ⟨f1,f2,f3,f4,f5⟩:=hfs;have hok:=hc;unfold hOk at hok;rw [f1,f2,f4] at hok;simp only [Bool.and_eq_true,decide_eq_true_eq] at hok;have hn:=(jZ c).2.2.1;rw [f3] at hn;have htg:=(LF hok.1).2;rw [f5] at htg;have TK:=Hd (fun w=>by have:=vL c w hc; rw [f1,f2,f3,f4,f5] at this; exact this);have CK:=Hd (fun (v:Bool) w (hv:decide (tg=lC ky (hB sl ep nn k))=v)=>nI sl ep nn k tg ky v w hok.2 hn.1 hn.2 hks (by omega) hv);have BG:=Hd (fun w=>aDA v k a b ky is w hr.range hky);have HT:=Hd h
 have HKY:=Hd (fun R w (h:TxS w0 R w t d s 640 E)=>tI h hE hr);have HRR:=Hd hR;have HM:=Hd hm;have HB:=Hd hb;clear h hs hb hm hc f1 f2 f3 f4 f5 hok hn htg hE hr hky hks hR;go_enter Tryz.func78,Tryz.ntmps78;go_wp2_with fail;refine (TK.out _).mono ?_;rintro e w2 ⟨rfl,b2⟩;have h1:=HT.out.below b2;have k1:=HT.out.kept b2;obtain ⟨a1,a2,a3,a4,a5,a6,a7⟩:=h1.box (.cells #[.int .i64 sl,.int .i64 ep,.int .u64 nn,.int .i64 k] 48);obtain ⟨bh,hbh⟩:∃ r3,w2.heap.size=r3:=⟨_,rfl⟩
 obtain ⟨x1,hx1⟩:∃ xx,w2.alloc (.cells #[.int .i64 sl,.int .i64 ep,.int .u64 nn,.int .i64 k] 48)=xx:=⟨_,rfl⟩
 rw [hx1] at a1 a2 a3 a5;rw [hbh] at a1 a3 a4 a5 a6 a7;have Xx1:=Hd (And.intro hx1 hbh);have m1:=(a2 bt HM.out.2.1 HM.out.2.2).trans ((k1 bt HM.out.2.1 HM.out.2.2).trans HB.out);have A3:=Hd (And.intro a3 (And.intro a4 m1));have A2:=Hd (k1.trans a2);have KY:=Hd (HKY.out _ _ a1);have c1:=(aM m1).1;clear b2 h1 k1 a1 a2 a3 a4 a5 a6 a7 hx1 hbh c0 TK m1;go_upto_region 2 with fail
 rw [Xx1.out.1,Xx1.out.2];go_wp2_with fail;refine KY.out.mono ?_;rintro e w3 ⟨rfl,h1,k1⟩;obtain ⟨a1,a2,a3,a4,a5,a6,a7⟩:=h1.box (.cells #[.int .i64 v,.string a,.string b] 115);obtain ⟨br,hbr⟩:∃ r3,w3.heap.size=r3:=⟨_,rfl⟩
 obtain ⟨x2,hx2⟩:∃ xx,w3.alloc (.cells #[.int .i64 v,.string a,.string b] 115)=xx:=⟨_,rfl⟩
 rw [hx2] at a1 a2 a3 a5;rw [hbr] at a1 a3 a4 a5 a6 a7;have Xx2:=Hd (And.intro hx2 hbr);have m1:=(a2 bh (by simp) A3.out.2.1).trans ((k1 bh (by simp) A3.out.2.1).trans A3.out.1);have m2:=(a2 bt (by simp [HM.out.2.1]) HM.out.2.2).trans ((k1 bt (by simp [HM.out.2.1]) HM.out.2.2).trans A3.out.2.2);have A4:=Hd (And.intro a1 (And.intro m1 m2));have A5:=Hd (A2.out.trans ((k1.sub (fun k hk=>by simp [hk])).trans (a2.sub (fun k hk=>by simp [hk]))));obtain ⟨⟨y0,y1,y2⟩,_⟩:=gI a3;obtain ⟨⟨z0,z1,z2,z3⟩,_⟩:=aG m1;clear h1 k1 a1 a2 a3 a4 a5 a6 a7 hx2 hbr c1 KY m1 m2
 go_upto_region 7 with fail
 rw [Xx2.out.1,Xx2.out.2];go_wp2_with fail;refine (BG.out _).mono ?_;rintro e w4 ⟨rfl,b4⟩;have m1:=bG A4.out.2.1 b4;have m2:=bG A4.out.2.2 b4;have T4:=Hd (A4.out.1.below b4);have K4:=Hd (A5.out.trans ((A4.out.1.kept b4).sub fun k hk=>by simp [hk]));have M4:=Hd (And.intro m1 m2);clear y0 y1 y2 z0 z1 z2 z3 b4 m1 m2
 rcases HRR.out with ⟨rfl,rfl,rfl⟩ | ⟨rfl,ht,rfl,rfl⟩ | ⟨rfl,ht,hl⟩
 ·have FIN:Hid (TxS w0 R w4 t d s 640 E∧KeptT R t w w4):=Hd ⟨T4.out.sub fun k hk=>by simp [hk],K4.out⟩
  go_wp2_with fail;go_ret2;exact ⟨rfl,FIN.out⟩
 ·have CC:=Hd (fun w=>CK.out false w (by simpa using ht))
  obtain ⟨⟨z0,z1,z2,z3⟩,_⟩:=aG M4.out.1;clear ht CK HRR;go_wp2_with fail;refine (CC.out _).mono ?_;rintro e w5 ⟨rfl,b5⟩;have FIN:Hid (TxS w0 R w5 t d s 640 E∧KeptT R t w w5):=Hd ⟨(T4.out.below b5).sub fun k hk=>by simp [hk],K4.out.trans ((T4.out.kept b5).sub fun k hk=>by simp [hk])⟩;clear b5 z0 z1 z2 z3;go_wp2_with fail;go_ret2;exact ⟨rfl,FIN.out⟩
 ·have CC:=Hd (fun w=>CK.out true w (by simpa using ht))
  have HL:=Hd hl;obtain ⟨⟨z0,z1,z2,z3⟩,_⟩:=aG M4.out.1;clear ht CK HRR hl;go_wp2_with fail;refine (CC.out _).mono ?_;rintro e w5 ⟨rfl,b5⟩;have T5:=Hd (And.intro (T4.out.below b5)(K4.out.trans ((T4.out.kept b5).sub fun k hk=>by simp [hk])));have LD:=Hd (HL.out _ _ T5.out.1);have c1:=(aM (bG M4.out.2 b5)).1;have m1:=bG M4.out.1 b5;clear z0 z1 z2 z3;obtain ⟨⟨z0,z1,z2,z3⟩,_⟩:=aG m1;clear b5 m1;go_wp2_with fail;refine LD.out.mono ?_;rintro e w6 ⟨rfl,h1,k1⟩
  have FIN:Hid (TxS w0 R w6 t d s 640 E∧KeptT R t w w6):=Hd ⟨h1.sub fun k hk=>by simp [hk],T5.out.2.trans (k1.sub fun k hk=>by simp [hk])⟩;clear h1 k1 z0 z1 z2 z3 c1 LD;go_wp2_with fail;go_ret2;exact ⟨rfl,FIN.out⟩
theorem IP {w0 w:World} {R:List Nat} {t d s n:Nat} {E:List Ent} {c:ByteArray} (h:TxS w0 R w t d s n E)(hc:hOk c=false) :
  Calls Tryz.prog 37 #[.pointer (some ⟨t,0,none⟩),.string c] w fun e w' => e=.returned (.tuple #[.int .i64 0,.int .i64 2])∧TxS w0 R w' t d s n E∧KeptT R t w w' :=
 VL (x:=0)(e:=2)(y:=0) h (.inr ⟨by decide,rfl⟩) fun R' wa b0 b1 hT g0 g1 gm=>GJ hT g1 g0 ⟨gm.2,gm.1⟩ hc
theorem WO {w0 w:World} {R:List Nat} {t d s:Nat} {E:List Ent} {c:ByteArray} {v:Int} {a b ky:ByteArray} {is:Bool} {rc re y:Int} (h:TxS w0 R w t d s 640 E)(hy:(re=0∧y=rc) ∨ (re ≠ 0∧y=0))(hc:hOk c=true)(hE:E.length ≤ 600)(hr:RingE E v a b)(hky:byR v a b (hfK c) ky is)(hks:ky.size ≤ 140737488351232)(hR:aB4 w0 t d s E (hfS c)(hfE c)(hfN c)(hfK c)(hr4 c) ky is rc re) :
  Calls Tryz.prog 37 #[.pointer (some ⟨t,0,none⟩),.string c] w fun e w' => e=.returned (.tuple #[.int .i64 y,.int .i64 re])∧TxS w0 R w' t d s 640 E∧KeptT R t w w' :=
 VL (x:=rc)(e:=re)(y:=y) h hy fun R' wa b0 b1 hT g0 g1 gm=>VR hT g1 g0 ⟨gm.2,gm.1⟩ hc ⟨rfl,rfl,rfl,rfl,rfl⟩ hE hr hky hks hR
def DrwS (R:List Nat)(t:Nat)(w:World)(a:Option Addr)(D:List Int):Prop:=∀ (j:Nat)(z:Int),D[j]?=some z → ∃ g,a=some ⟨g,0,none⟩∧g ∈ R∧g ≠ t∧w.cell? ⟨g,j,none⟩=some (.int .u64 z)
theorem RN {w w' : World} {g j:Nat} (h:w'.heap[g]?=w.heap[g]?):w'.cell? ⟨g,j,none⟩=w.cell? ⟨g,j,none⟩:=by
 unfold World.cell?;rw [h]
theorem DrwS.kept {R:List Nat} {t:Nat} {w w' : World} {a:Option Addr} {D:List Int} (h:DrwS R t w a D)(k:KeptT R t w w'):DrwS R t w' a D:=fun j z hz=>by
 obtain ⟨g,h1,h2,h3,h4⟩:=h j z hz;exact ⟨g,h1,h2,h3,(RN (k g h2 h3)).trans h4⟩
theorem DrwS.sub {R R' : List Nat} {t:Nat} {w:World} {a:Option Addr} {D:List Int} (h:DrwS R t w a D)(hs:∀ k ∈ R,k ∈ R'):DrwS R' t w a D:=fun j z hz=>by
 obtain ⟨g,h1,h2,h3,h4⟩:=h j z hz;exact ⟨g,h1,hs g h2,h3,h4⟩
theorem ZI {w0 w:World} {R:List Nat} {t d s cp:Nat} {E E' : List Ent} {a:Option Addr} {D:List Int} {ca v sl ep z:Int} {ka kb:ByteArray} {k:Nat} (h:TxS w0 R w t d s 640 E)(hd:DrwS R t w a D)(hE:E.length ≤ 600)(hr:RingE E v ka kb)(hv:v ≠ 0)(hln:D.length ≤ 1000)
  (hbusy:∀ j z,j < k → D[j]?=some z → ∀ R w,TxS w0 R w t d s 640 E → Calls Tryz.prog 22 #[.pointer (some ⟨t,0,none⟩),.int .i64 ca,.int .u64 z] w fun e w' => e=.returned (.tuple #[.agg #[.int .i64 0,.int .i64 0,.int .i64 0,.int .u64 0],.int .i64 13])∧TxS w0 R w' t d s 640 E∧KeptT R t w w')
  (hk8:k < 8)(hz:D[k]?=some z)(hnz:0 ≤ z∧z ≤ 18446744073709551615)(hks:ka.size ≤ 140737488351232)(hok:fF sl ep v=true)
  (htake:∀ R w,TxS w0 R w t d s 640 E → Calls Tryz.prog 22 #[.pointer (some ⟨t,0,none⟩),.int .i64 ca,.int .u64 z] w fun e w' => e=.returned (.tuple #[.agg #[.int .i64 sl,.int .i64 ca,.int .i64 ep,.int .u64 z],.int .i64 0])∧TxS w0 R w' t d s 640 E'∧KeptT R t w w') :
  Calls Tryz.prog 76 #[.pointer (some ⟨t,0,none⟩),.int .i64 ca,.slice a D.length cp] w fun e w' => e=.returned (.tuple #[.string (cM sl ep z v ka),.int .i64 ((k:Int) + 1),.int .i64 0])∧TxS w0 R w' t d s 640 E'∧KeptT R t w w' := by
 obtain ⟨sv,hsv⟩:∃ x,cM sl ep z v ka=x:=⟨_,rfl⟩
 have PU:=Hd (fun w=>CF sl ep z v ka sv w hok hnz.1 hnz.2 hks hsv);have HTK:=Hd htake;have HZ:=Hd hz;have hkl:k < D.length:=(List.getElem?_eq_some_iff.1 hz).1;rw [hsv];obtain ⟨mn,hmn⟩:∃ m:Int,min (D.length:Int) 8=m:=⟨_,rfl⟩
 have HMN:Hid ((k:Int) < mn∧mn ≤ 8):=Hd (by omega);have HLN:Hid (k ≤ D.length∧k ≤ 8):=Hd ⟨by omega,by omega⟩;have HBU:=Hd hbusy;have KY:=Hd (tI h hE hr);have m1:min (D.length:Int) 8=mn:=hmn;have m2:(if 8 < (D.length:Int) then 8 else (D.length:Int))=mn:=by rw [← hmn]; split <;> omega
 have m3:(if (D.length:Int) ≤ 8 then (D.length:Int) else 8)=mn:=by rw [← hmn]; split <;> omega
 have hv0:(v == 0)=false:=by simpa using hv
 have HD:=Hd hd;clear h hd hE hr hv hbusy hmn hk8 hz hnz hks hok htake hsv hkl;go_enter Tryz.func76,Tryz.ntmps76;go_wp2_with fail
 go_step3
 go_wp2_with fail;refine KY.out.mono ?_;rintro e w2 ⟨rfl,h1,k1⟩;obtain ⟨a1,a2,a3,a4,a5,a6,a7⟩:=h1.box (.cells #[.int .i64 v,.string ka,.string kb] 115);obtain ⟨br,hbr⟩:∃ r3,w2.heap.size=r3:=⟨_,rfl⟩
 obtain ⟨x1,hx1⟩:∃ xx,w2.alloc (.cells #[.int .i64 v,.string ka,.string kb] 115)=xx:=⟨_,rfl⟩
 rw [hx1] at a1 a2 a3 a5;rw [hbr] at a1 a3 a4 a5 a6 a7;have Xx1:=Hd (And.intro hx1 hbr);have K1:=Hd (k1.trans a2);have A3:=Hd (And.intro a3 (And.intro a4 a7));obtain ⟨⟨z0,z1,z2⟩,_⟩:=gI a3;have h2:=a1;clear h1 k1 a2 a3 a4 a5 a6 a7 hx1 hbr KY a1;go_upto_region 7 with fail
 rw [Xx1.out.1,Xx1.out.2];obtain ⟨a1,a2,a3,a4,a5,a6,a7⟩:=h2.box (.cells #[.int .i64 0,.int .i64 0,.int .i64 0,.int .u64 0] 37);obtain ⟨bx,hbx⟩:∃ r3,x1.heap.size=r3:=⟨_,rfl⟩
 obtain ⟨wl,hwl⟩:∃ xx,x1.alloc (.cells #[.int .i64 0,.int .i64 0,.int .i64 0,.int .u64 0] 37)=xx:=⟨_,rfl⟩
 rw [hwl] at a1 a2 a3 a5;rw [hbx] at a1 a3 a4 a5 a6 a7;have Xwl:=Hd (And.intro hwl hbx);have mr:=(a2 br (by simp) A3.out.2.1).trans A3.out.1;have KW:Hid (KeptT R t w wl):=Hd (K1.out.trans (a2.sub fun k hk=>by simp [hk]));have HNB:Hid (bx ≠ t∧w0.heap.size ≤ bx∧∀ k ∈ br :: R,k ≠ bx):=Hd ⟨a4,a6,a7⟩;have HNB2:=Hd (And.intro A3.out.2.1 mr);have HT0:=Hd a1;have BX0:=Hd a3;have DR0:Hid (DrwS (br :: R) t wl a D):=Hd ((HD.out.kept KW.out).sub fun k hk=>by simp [hk]);have KL0:Hid (KeptT (br :: R) t wl wl):=Hd (KeptT.refl _ _ _)
 clear a1 a2 a3 a4 a5 a6 a7 hwl hbx mr h2 z0 z1 z2;go_wp2_with fail;rw [Xwl.out.1,Xwl.out.2]
 go_step3
 go_wp2_with fail
 go_loopw [10,11] (fun e i wr=>∃ (j:Nat)(q c1 c2 c3:Int)(c4:Int),e=.int .i64 q∧i=.int .i64 (j:Int)∧j ≤ k∧Hid (TxS w0 (bx :: br :: R) wr t d s 640 E)∧Hid (KeptT (br :: R) t wl wr)∧Hid (DrwS (br :: R) t wr a D)∧Hid (wr.heap[bx]?=some (.cells #[.int .i64 c1,.int .i64 c2,.int .i64 c3,.int .u64 c4] 37)))(fun _ i _=>9 - (intOf i).toNat)
 case atStart=>exact ⟨0,0,0,0,0,0,rfl,rfl,Nat.zero_le _,HT0,KL0,DR0,BX0⟩
 case round =>
  obtain ⟨j,q,c1,c2,c3,c4,rfl,rfl,hj,HT,KL,DR,BXc⟩:=hrel
  by_cases hjk:j < k
  ·obtain ⟨zj,hzj⟩:∃ z,D[j]?=some z:=⟨_,List.getElem?_eq_getElem (by have:=HLN.out.1; omega)⟩
   obtain ⟨gd,hga,hgR,hgt,hgc⟩:=DR.out j zj hzj;subst hga;have hjl:(j:Int) < (D.length:Int):=by have:=HLN.out.1; omega
   have e3:(13:Int)=0 → False:=by decide
   have e4:IntKind.i64.wrap ((j:Int) + 1)=((j + 1:Nat):Int):=by rw [show (j:Int) + 1=((j + 1:Nat):Int) by omega]; exact IntWalk.i64_in _ (by have:=HLN.out.2; omega)
   have hjm:((j:Int) == mn)=false:=by have:=HMN.out; simp; omega
   have BU:=Hd (HBU.out j zj hjk hzj _ _ HT.out);have HJ:=Hd hjk;have HXB:=BXc;clear hj hjk hzj hgR hgt BXc;go_wp2_with fail;refine BU.out.mono ?_;rintro e wb ⟨rfl,h1,k1⟩;have mb:=(k1 bx (by simp) HNB.out.1).trans HXB.out;obtain ⟨⟨y0,y1,y2,y3⟩,u0,u1,u2,u3⟩:=aG mb;obtain ⟨n1,n2⟩:=set4 mb (.int .i64 0)(.int .i64 0)(.int .i64 0)(.int .u64 0)
   have FINb:Hid (TxS w0 (bx :: br :: R)(st4 wb bx (.int .i64 0)(.int .i64 0)(.int .i64 0)(.int .u64 0)) t d s 640 E∧KeptT (br :: R) t wl (st4 wb bx (.int .i64 0)(.int .i64 0)(.int .i64 0)(.int .u64 0))∧(st4 wb bx (.int .i64 0)(.int .i64 0)(.int .i64 0)(.int .u64 0)).heap[bx]?=some (.cells #[.int .i64 0,.int .i64 0,.int .i64 0,.int .u64 0] 37)):=Hd
    ⟨h1.turn (k:=bx)(by simp) HNB.out.1 HNB.out.2.1 n2,fun k hk hn=>(n2.block k (h1.lt.1 k (by simp only [List.mem_cons] at hk ⊢; exact .inr hk))(HNB.out.2.2 k hk)).trans ((k1 k (by simp only [List.mem_cons] at hk ⊢; exact .inr hk) hn).trans (KL.out k hk hn)),n1⟩
   have DR2:=Hd (DR0.out.kept FINb.out.2.1);unfold st4 at FINb DR2;clear h1 k1 mb n1 n2 BU hgc;go_wp2_with fail;go_roundw
   case rel=>exact ⟨j + 1,_,_,_,_,_,rfl,rfl,HJ.out,Hd FINb.out.1,Hd FINb.out.2.1,DR2,Hd FINb.out.2.2⟩
   case measure=>have:=HJ.out; have:=HLN.out; simp [intOf]; omega
  ·obtain rfl:j=k:=by omega
   obtain ⟨gd,hga,hgR,hgt,hgc⟩:=DR.out j z HZ.out;subst hga;have hjl:(j:Int) < (D.length:Int):=by have:=(List.getElem?_eq_some_iff.1 HZ.out).1; omega
   have e4:IntKind.i64.wrap ((j:Int) + 1)=(j:Int) + 1:=IntWalk.i64_in _ (by have:=HLN.out.2; omega);have hjm:((j:Int) == mn)=false:=by have:=HMN.out; simp; omega
   have TA:=Hd (HTK.out _ _ HT.out);clear hj hjk hgR hgt;go_wp2_with fail;refine TA.out.mono ?_;rintro e wb ⟨rfl,h1,k1⟩;have mb:=(k1 bx (by simp) HNB.out.1).trans BXc.out;have mr:=(k1 br (by simp) HNB2.out.1).trans ((KL.out br (by simp) HNB2.out.1).trans HNB2.out.2);obtain ⟨⟨y0,y1,y2,y3⟩,u0,u1,u2,u3⟩:=aG mb;obtain ⟨n1,n2⟩:=set4 mb (.int .i64 sl)(.int .i64 ca)(.int .i64 ep)(.int .u64 z);obtain ⟨wc,hwc⟩:∃ wc,st4 wb bx (.int .i64 sl)(.int .i64 ca)(.int .i64 ep)(.int .u64 z)=wc:=⟨_,rfl⟩
   have mr2:=(n2.block br (h1.lt.1 br (by simp))(HNB.out.2.2 br (by simp))).trans mr;rw [hwc] at n1 n2 mr2
   have FINb:Hid (TxS w0 (bx :: br :: R) wc t d s 640 E'∧KeptT (br :: R) t wl wc∧wc.heap[bx]?=some (.cells #[.int .i64 sl,.int .i64 ca,.int .i64 ep,.int .u64 z] 37)∧wc.heap[br]?=some (.cells #[.int .i64 v,.string ka,.string kb] 115)):=Hd
    ⟨h1.turn (k:=bx)(by simp) HNB.out.1 HNB.out.2.1 n2,fun k hk hn=>(n2.block k (h1.lt.1 k (by simp only [List.mem_cons] at hk ⊢; exact .inr hk))(HNB.out.2.2 k hk)).trans ((k1 k (by simp only [List.mem_cons] at hk ⊢; exact .inr hk) hn).trans (KL.out k hk hn)),n1,mr2⟩
   have HWC:Hid ((((wb.setCell ⟨bx,0,none⟩ (.int .i64 sl)).setCell ⟨bx,1,none⟩ (.int .i64 ca)).setCell ⟨bx,2,none⟩ (.int .i64 ep)).setCell ⟨bx,3,none⟩ (.int .u64 z)=wc):=Hd hwc;clear h1 k1 mb mr mr2 n1 n2 TA hgc hwc;go_upto_region 16 with fail
   rw [HWC.out];clear y0 y1 y2 y3 u0 u1 u2 u3;obtain ⟨⟨y0,y1,y2,y3⟩,_⟩:=aG FINb.out.2.2.1;obtain ⟨⟨z0,z1,z2⟩,_⟩:=gI FINb.out.2.2.2;go_wp2_with fail;refine (PU.out _).mono ?_;rintro e wd ⟨rfl,bd⟩;have FIN:Hid (TxS w0 R wd t d s 640 E'∧KeptT R t w wd):=Hd ⟨(FINb.out.1.below bd).sub fun k hk=>by simp [hk],KW.out.trans ((FINb.out.2.1.sub fun k hk=>by simp [hk]).trans ((FINb.out.1.kept bd).sub fun k hk=>by simp [hk]))⟩;clear bd y0 y1 y2 y3 z0 z1 z2;go_wp2_with fail;try rw [Exit.noGoto_ret]
   go_ret3;exact ⟨rfl,FIN.out⟩
theorem ZH {w:World} {g:Nat} {v:Value} {t:TypeId} (h:w.heap[g]?=some (.cells #[v] t))(u:Value):(w.setCell ⟨g,0,none⟩ u).heap[g]?=some (.cells #[u] t):=by
 rw [hss _ _ 0 _ _ _ h]; rfl
theorem UA {w0 w:World} {R:List Nat} {t d s bt bc bd bs bu ln cp:Nat} {E' : List Ent} {a:Option Addr} {ca e uv u0:Int} {sv s0:ByteArray} (hb:w.heap[bt]?=some (.cells #[.pointer (some ⟨t,0,none⟩)] 24))(hc:w.heap[bc]?=some (.cells #[.int .i64 ca] 3))(hd:w.heap[bd]?=some (.cells #[.slice a ln cp] 66))(hs:w.heap[bs]?=some (.cells #[.string s0] 9))(hu:w.heap[bu]?=some (.cells #[.int .i64 u0] 3))(hm:((bs ∈ R∧bs ≠ t)∧w0.heap.size ≤ bs)∧((bu ∈ R∧bu ≠ t)∧w0.heap.size ≤ bu)∧bs ≠ bu)
  (HC:Calls Tryz.prog 76 #[.pointer (some ⟨t,0,none⟩),.int .i64 ca,.slice a ln cp] w fun e' w' => e'=.returned (.tuple #[.string sv,.int .i64 uv,.int .i64 e])∧TxS w0 R w' t d s 640 E'∧KeptT R t w w') :
  Calls Tryz.prog 75 #[.pointer (some ⟨bt,0,none⟩),.pointer (some ⟨bc,0,none⟩),.pointer (some ⟨bd,0,none⟩),.pointer (some ⟨bs,0,none⟩),.pointer (some ⟨bu,0,none⟩)] w fun e' w' => e'=.returned (.int .i64 e)∧TxS w0 R w' t d s 640 E'∧(w'.heap[bs]?=some (.cells #[.string sv] 9)∧w'.heap[bu]?=some (.cells #[.int .i64 uv] 3)∧∀ k ∈ R,k ≠ t → k ≠ bs → k ≠ bu → w'.heap[k]?=w.heap[k]?):=by
 have c0:=(aM hb).1;have c1:=(aM hc).1;have c2:=(aM hd).1;have H:=Hd HC;have HS:=Hd (And.intro hs hu);have HM:=Hd hm;clear hb hc hd hs hu hm HC;go_enter Tryz.func75,Tryz.ntmps75;go_wp2_with fail;refine H.out.mono ?_;rintro e' w1 ⟨rfl,h1,h2⟩;have m1:=(h2 bs HM.out.1.1.1 HM.out.1.1.2).trans HS.out.1;have m2:=(h2 bu HM.out.2.1.1.1 HM.out.2.1.1.2).trans HS.out.2;obtain ⟨k1,g1⟩:=aM m1;obtain ⟨k2,g2⟩:=aM m2;have f1:=eE (w:=w1)(b:=bs)(i:=0)(.string sv);have m3:=(f1.block bu (h1.lt.1 bu HM.out.2.1.1.1)(fun h=>HM.out.2.2 h.symm)).trans m2
 have f2:=eE (w:=w1.setCell ⟨bs,0,none⟩ (.string sv))(b:=bu)(i:=0)(.int .i64 uv);have t1:=h1.turn HM.out.1.1.1 HM.out.1.1.2 HM.out.1.2 f1
 have FIN:Hid (TxS w0 R ((w1.setCell ⟨bs,0,none⟩ (.string sv)).setCell ⟨bu,0,none⟩ (.int .i64 uv)) t d s 640 E'∧(((w1.setCell ⟨bs,0,none⟩ (.string sv)).setCell ⟨bu,0,none⟩ (.int .i64 uv)).heap[bs]?=some (.cells #[.string sv] 9)∧((w1.setCell ⟨bs,0,none⟩ (.string sv)).setCell ⟨bu,0,none⟩ (.int .i64 uv)).heap[bu]?=some (.cells #[.int .i64 uv] 3)∧∀ k ∈ R,k ≠ t → k ≠ bs → k ≠ bu → ((w1.setCell ⟨bs,0,none⟩ (.string sv)).setCell ⟨bu,0,none⟩ (.int .i64 uv)).heap[k]?=w.heap[k]?)):=Hd
  ⟨t1.turn HM.out.2.1.1.1 HM.out.2.1.1.2 HM.out.2.1.2 f2,(f2.block bs (t1.lt.1 bs HM.out.1.1.1) HM.out.2.2).trans (ZH m1 _),ZH m3 _,fun k hk hn n1 n2=>(f2.block k (t1.lt.1 k hk) n2).trans ((f1.block k (h1.lt.1 k hk) n1).trans (h2 k hk hn))⟩
 have ne1:¬ bs=bu:=HM.out.2.2;have ne2:¬ bu=bs:=fun e=>HM.out.2.2 e.symm
 clear h1 h2 m1 m2 m3 f1 f2 t1 c0 c1 c2;go_wp2_with fail;go_ret;exact ⟨rfl,FIN.out⟩
theorem qU {P:Program} {fn:Func} {p q r:Tmp} {ty tz:TypeId} (h:fn.results=#[.cell p ty,.cell q tz,.tmp r])(tmps:Array Value)(w:World)(a b:Option Addr)(v u x:Value)
  (hp:tmps.getD p undef=.pointer a)(hq:tmps.getD q undef=.pointer b)(hx:tmps.getD r undef=x)
  (h1:((asAddr (.pointer a)).run P w).andThen (fun a w₁=>(loadVar ty a).run P w₁)=.ok v w)(h2:((asAddr (.pointer b)).run P w).andThen (fun a w₁=>(loadVar tz a).run P w₁)=.ok u w) :
  (results fn tmps).run P w=.ok (.tuple #[v,u,x]) w:=by
 have e:(results fn tmps).run P w=(((asAddr (tmps.getD p undef)).run P w).andThen fun a w₁=>(loadVar ty a).run P w₁).andThen fun v w₂=>(((asAddr (tmps.getD q undef)).run P w₂).andThen fun a w₁=>(loadVar tz a).run P w₁).andThen fun u w₃=>.ok (.tuple #[v,u,tmps.getD r undef]) w₃:=by
  simp only [results,h];simp [Sem.run_bind,Result.andThen];generalize Sem.run P (asAddr (tmps[p]?.getD undef)) w=r
  cases r with
  | ok a w1 =>
   dsimp only
   generalize Sem.run P (loadVar ty a) w1=r2
   cases r2 with
   | ok v1 w2 =>
    dsimp only
    generalize Sem.run P (asAddr (tmps[q]?.getD undef)) w2=r3
    cases r3 with
    | ok b w3 =>
     dsimp only
    | halt x w1=>rfl
   | halt x w1=>rfl
  | halt x w1=>rfl
 rw [e,hp,h1]
 show (((asAddr (tmps.getD q undef)).run P w).andThen fun a w₁=>(loadVar tz a).run P w₁).andThen _=_
 rw [hq,h2,hx]
 rfl
structure SlW (w0 w:World)(R Rb:List Nat)(t d s:Nat)(E:List Ent)(b6 b7:Nat)(sv:ByteArray)(uv:Int)(w' : World):Prop where
 tx:TxS w0 Rb w' t d s 640 E
 c6:w'.heap[b6]?=some (.cells #[.string sv] 9)
 c7:w'.heap[b7]?=some (.cells #[.int .i64 uv] 3)
 kp:∀ k ∈ R,k ≠ t → w'.heap[k]?=w.heap[k]?
structure SlN (w0:World)(R Rb:List Nat)(t b6 b7:Nat):Prop where
 m6:b6 ∈ Rb∧b6 ≠ t∧w0.heap.size ≤ b6
 m7:b7 ∈ Rb∧b7 ≠ t∧w0.heap.size ≤ b7
 ne:b6 ≠ b7
 sub:∀ k ∈ R,k ∈ Rb∧k ≠ b6∧k ≠ b7
theorem SlW.set6 {w0 w w' : World} {R Rb:List Nat} {t d s b6 b7:Nat} {E:List Ent} {sv:ByteArray} {uv:Int} (h:SlW w0 w R Rb t d s E b6 b7 sv uv w')(n:SlN w0 R Rb t b6 b7):SlW w0 w R Rb t d s E b6 b7 sv uv (w'.setCell ⟨b6,0,none⟩ (.string sv)):=by
 have f:=eE (w:=w')(b:=b6)(i:=0)(.string sv);exact ⟨h.tx.turn n.m6.1 n.m6.2.1 n.m6.2.2 f,ZH h.c6 _,(f.block b7 (h.tx.lt.1 b7 n.m7.1)(fun e=>n.ne e.symm)).trans h.c7,fun k hk hn=>(f.block k (h.tx.lt.1 k (n.sub k hk).1)(n.sub k hk).2.1).trans (h.kp k hk hn)⟩
theorem SlW.set7 {w0 w w' : World} {R Rb:List Nat} {t d s b6 b7:Nat} {E:List Ent} {sv:ByteArray} {uv:Int} (h:SlW w0 w R Rb t d s E b6 b7 sv uv w')(n:SlN w0 R Rb t b6 b7):SlW w0 w R Rb t d s E b6 b7 sv uv (w'.setCell ⟨b7,0,none⟩ (.int .i64 uv)):=by
 have f:=eE (w:=w')(b:=b7)(i:=0)(.int .i64 uv);exact ⟨h.tx.turn n.m7.1 n.m7.2.1 n.m7.2.2 f,(f.block b6 (h.tx.lt.1 b6 n.m6.1) n.ne).trans h.c6,ZH h.c7 _,fun k hk hn=>(f.block k (h.tx.lt.1 k (n.sub k hk).1)(n.sub k hk).2.2).trans (h.kp k hk hn)⟩
theorem WN {w0 w:World} {R:List Nat} {t d s ln cp:Nat} {E E' : List Ent} {a:Option Addr} {ca e uv:Int} {sv:ByteArray} (h:TxS w0 R w t d s 640 E)
  (HC:∀ (R' : List Nat)(wa:World),(∀ k ∈ R,k ∈ R') → TxS w0 R' wa t d s 640 E → KeptT R t w wa → Calls Tryz.prog 76 #[.pointer (some ⟨t,0,none⟩),.int .i64 ca,.slice a ln cp] wa fun e' w' => e'=.returned (.tuple #[.string sv,.int .i64 uv,.int .i64 e])∧TxS w0 R' w' t d s 640 E'∧KeptT R' t wa w') :
  Calls Tryz.prog 36 #[.pointer (some ⟨t,0,none⟩),.int .i64 ca,.slice a ln cp] w fun e' w' => e'=.returned (.tuple #[.string sv,.int .i64 uv,.int .i64 e])∧TxS w0 R w' t d s 640 E'∧KeptT R t w w' := by
 obtain ⟨a1,a2,a3,a4,a5,a6,a7⟩:=h.box (.cells #[.pointer (some ⟨t,0,none⟩)] 24);obtain ⟨x1,hx1⟩:∃ xx,w.alloc (.cells #[.pointer (some ⟨t,0,none⟩)] 24)=xx:=⟨_,rfl⟩
 rw [hx1] at a1 a2 a3 a5;obtain ⟨b1,b2,b3,b4,b5,b6,b7⟩:=a1.box (.cells #[.int .i64 ca] 3);obtain ⟨x2,hx2⟩:∃ xx,x1.alloc (.cells #[.int .i64 ca] 3)=xx:=⟨_,rfl⟩
 rw [hx2] at b1 b2 b3 b5;rw [a5] at b1 b3 b4 b5 b6 b7;obtain ⟨f1,f2,f3,f4,f5,f6,f7⟩:=b1.box (.cells #[.slice a ln cp] 66);obtain ⟨x3,hx3⟩:∃ xx,x2.alloc (.cells #[.slice a ln cp] 66)=xx:=⟨_,rfl⟩
 rw [hx3] at f1 f2 f3 f5;rw [b5] at f1 f3 f4 f5 f6 f7;obtain ⟨g1,g2,g3,g4,g5,g6,g7⟩:=f1.box (.cells #[.string ⟨#[]⟩] 9);obtain ⟨x4,hx4⟩:∃ xx,x3.alloc (.cells #[.string ⟨#[]⟩] 9)=xx:=⟨_,rfl⟩
 rw [hx4] at g1 g2 g3 g5;rw [f5] at g1 g3 g4 g5 g6 g7;obtain ⟨h1,h2,h3,h4,h5,h6,h7⟩:=g1.box (.cells #[.int .i64 0] 3);obtain ⟨x5,hx5⟩:∃ xx,x4.alloc (.cells #[.int .i64 0] 3)=xx:=⟨_,rfl⟩
 rw [hx5] at h1 h2 h3 h5;rw [g5] at h1 h3 h4 h5 h6 h7;have hkw:KeptT R t w x5:=a2.trans ((b2.sub (fun k hk=>by simp [hk])).trans ((f2.sub (fun k hk=>by simp [hk])).trans ((g2.sub (fun k hk=>by simp [hk])).trans (h2.sub (fun k hk=>by simp [hk])))));have m0:=(h2 (w.heap.size)(by simp) a4).trans ((g2 (w.heap.size)(by simp) a4).trans ((f2 (w.heap.size)(by simp) a4).trans ((b2 (w.heap.size)(by simp) a4).trans (a3))));have m1:=(h2 (w.heap.size + 1)(by simp) b4).trans ((g2 (w.heap.size + 1)(by simp) b4).trans ((f2 (w.heap.size + 1)(by simp) b4).trans (b3)))
 have m2:=(h2 (w.heap.size + 1 + 1)(by simp) f4).trans ((g2 (w.heap.size + 1 + 1)(by simp) f4).trans (f3));have m3:=(h2 (w.heap.size + 1 + 1 + 1)(by simp) g4).trans (g3);have m4:=h3;have HK:=HC ((w.heap.size + 1 + 1 + 1 + 1) :: (w.heap.size + 1 + 1 + 1) :: (w.heap.size + 1 + 1) :: (w.heap.size + 1) :: (w.heap.size) :: R) x5 (fun k hk=>by simp [hk]) h1 hkw;have V1:=Hd (oX h1 (fun w=>by kernel_rfl)(UA (sv:=sv)(uv:=uv)(e:=e) m0 m1 m2 m3 m4 ⟨⟨⟨by simp,g4⟩,g6⟩,⟨⟨by simp,h4⟩,h6⟩,by omega⟩ HK))
 have HN:Hid (SlN w0 R ((w.heap.size + 1 + 1 + 1 + 1) :: (w.heap.size + 1 + 1 + 1) :: (w.heap.size + 1 + 1) :: (w.heap.size + 1) :: (w.heap.size) :: R) t (w.heap.size + 1 + 1 + 1)(w.heap.size + 1 + 1 + 1 + 1)):=Hd ⟨⟨by simp,g4,g6⟩,⟨by simp,h4,h6⟩,by omega,fun k hk=>⟨by simp [hk],g7 k (by simp [hk]),h7 k (by simp [hk])⟩⟩;have HKW:=Hd hkw;have HM0:=Hd (And.intro m0 a4);have HR7:Hid (∀ k ∈ R,k ≠ w.heap.size + 1 + 1 + 1∧k ≠ w.heap.size + 1 + 1 + 1 + 1):=Hd fun k hk=>⟨g7 k (by simp [hk]),h7 k (by simp [hk])⟩
 have c0:=(aM m0).1;have X1:=Hd (And.intro hx1 (And.intro hx2 (And.intro hx3 (And.intro hx4 hx5))));clear h HC hkw HK m0 m1 m2 m3 m4 a1 a2 a3 a4 a5 a6 a7 b1 b2 b3 b4 b5 b6 b7 f1 f2 f3 f4 f5 f6 f7 g1 g2 g3 g4 g5 g6 g7 h1 h2 h3 h4 h5 h6 h7 hx1 hx2 hx3 hx4 hx5;go_enter Tryz.func36,Tryz.ntmps36;go_upto_region 1 with fail
 try simp only [World.heap_size_alloc]
 rw [X1.out.1,X1.out.2.1,X1.out.2.2.1,X1.out.2.2.2.1,X1.out.2.2.2.2];go_wp2_with fail;refine V1.out.mono ?_;rintro e' w4 ⟨rfl,t1,p1,p2,p3⟩;have ER:=Hd (XN t1);have mt:=(p3 w.heap.size (by simp) HM0.out.2 (by omega)(by omega)).trans HM0.out.1
 have HSW:Hid (SlW w0 w R ((w.heap.size + 1 + 1 + 1 + 1) :: (w.heap.size + 1 + 1 + 1) :: (w.heap.size + 1 + 1) :: (w.heap.size + 1) :: (w.heap.size) :: R) t d s E' (w.heap.size + 1 + 1 + 1)(w.heap.size + 1 + 1 + 1 + 1) sv uv w4.drew):=Hd ⟨t1.below Br.drew,p1,p2,fun k hk hn=>(p3 k (by simp [hk]) hn (HR7.out k hk).1 (HR7.out k hk).2).trans (HKW.out k hk hn)⟩;clear c0;have c0:=(aM mt).1;clear t1 p1 p2 p3 mt V1;go_wp2_with fail;refine ER.out.mono ?_;rintro e' w5 ⟨rfl,rfl⟩;clear ER c0;obtain ⟨wd,hwd⟩:∃ wd,w4.drew=wd:=⟨_,rfl⟩
 rw [hwd] at HSW;have HWD:=Hd hwd;clear hwd;go_upto_region 4 with fail
 have hwd:=HWD.out;obtain ⟨k6,g6⟩:=aM HSW.out.c6;obtain ⟨k7,g7⟩:=aM HSW.out.c7;refine wp_region_held_drew (S:=fun w' => SlW w0 w R ((w.heap.size + 1 + 1 + 1 + 1) :: (w.heap.size + 1 + 1 + 1) :: (w.heap.size + 1 + 1) :: (w.heap.size + 1) :: (w.heap.size) :: R) t d s E' (w.heap.size + 1 + 1 + 1)(w.heap.size + 1 + 1 + 1 + 1) sv uv w')(by kernel_rfl)(by rw [hwd]; exact HSW.out)(fun hS=>?_);rw [hwd] at hS ⊢;clear hwd;refine Hv 0 16 ?va0x1 hS ?ha0x1 ?_
 case ha0x1 =>
  intro w9 s9;have k9:=(aM s9.c6).1;clear s9;go_simp;try (with_reducible rfl)
 simp only [SL];refine Hv 1 17 ?va1x2 hS ?ha1x2 ?_
 case ha1x2 =>
  intro w9 s9;have k9:=(aM s9.c7).1;clear s9;go_simp;try (with_reducible rfl)
 simp only [SL];refine Hu 2 18 hS ?_;simp only [SL];refine Hs 3 (fun K HK=>?_);go_simp;refine HK.out _ _ ?_ ?_
 ·exact hS.set6 HN.out
 clear HK K;try simp only [Act.put,SL]
 have hS9:=hS.set6 HN.out;clear hS;have hS:=hS9;clear hS9;refine Hs 4 (fun K HK=>?_);go_simp;refine HK.out _ _ ?_ ?_
 ·exact hS.set7 HN.out
 clear HK K;try simp only [Act.put,SL]
 have hS9:=hS.set7 HN.out;clear hS;have hS:=hS9;clear hS9;refine Hu 5 8 hS ?_;simp only [SL];refine wpAnyH_done (by kernel_rfl) ?_ _;have l1:=BK (ty:=9)(by rfl) Tryz.underlying9 (aM hS.c6).1;have l2:=BK (ty:=3)(by rfl) Tryz.underlying3 (aM hS.c7).1;have FIN:=Hd (And.intro (hS.tx.sub (R' := R) fun k hk=>by simp [hk])(show KeptT R t w _ from fun k hk hn=>hS.kp k hk hn));clear hS;go_wp2_with fail;exact bodyPost_ret (qU (fn:=Tryz.f36) rfl _ _ _ _ _ _ _ rfl rfl rfl l1 l2) rfl ⟨rfl,FIN.out⟩
theorem WM {w0 w:World} {R:List Nat} {t d s cp:Nat} {E E' : List Ent} {a:Option Addr} {D:List Int} {ca v sl ep z:Int} {ka kb:ByteArray} {k:Nat} (h:TxS w0 R w t d s 640 E)(hd:DrwS R t w a D)(hE:E.length ≤ 600)(hr:RingE E v ka kb)(hv:v ≠ 0)(hln:D.length ≤ 1000)
  (hbusy:∀ j z,j < k → D[j]?=some z → ∀ R w,TxS w0 R w t d s 640 E → Calls Tryz.prog 22 #[.pointer (some ⟨t,0,none⟩),.int .i64 ca,.int .u64 z] w fun e w' => e=.returned (.tuple #[.agg #[.int .i64 0,.int .i64 0,.int .i64 0,.int .u64 0],.int .i64 13])∧TxS w0 R w' t d s 640 E∧KeptT R t w w')
  (hk8:k < 8)(hz:D[k]?=some z)(hnz:0 ≤ z∧z ≤ 18446744073709551615)(hks:ka.size ≤ 140737488351232)(hok:fF sl ep v=true)
  (htake:∀ R w,TxS w0 R w t d s 640 E → Calls Tryz.prog 22 #[.pointer (some ⟨t,0,none⟩),.int .i64 ca,.int .u64 z] w fun e w' => e=.returned (.tuple #[.agg #[.int .i64 sl,.int .i64 ca,.int .i64 ep,.int .u64 z],.int .i64 0])∧TxS w0 R w' t d s 640 E'∧KeptT R t w w') :
  Calls Tryz.prog 36 #[.pointer (some ⟨t,0,none⟩),.int .i64 ca,.slice a D.length cp] w fun e w' => e=.returned (.tuple #[.string (cM sl ep z v ka),.int .i64 ((k:Int) + 1),.int .i64 0])∧TxS w0 R w' t d s 640 E'∧KeptT R t w w' :=
 WN h fun R' wa hs hT hK=>ZI hT ((hd.kept hK).sub hs) hE hr hv hln hbusy hk8 hz hnz hks hok htake
theorem PJ (w:World) :
  Calls Tryz.prog 33 #[] w fun e w' => ∃ t d s,e=.returned (.pointer (some ⟨t,0,none⟩))∧TxS w [] w' t d s 640 []:=by
 have NY:=Hd fun w=>aAW w 640 (by decide)(by decide)
 have hln:(DkS.fresh 640).S.length=640:=by show (List.replicate 640 zs).length=640; rw [List.length_replicate]
 have FG:=Hd (XJ (DkS.fresh 640) rfl rfl (by rw [hln]; decide)(by rw [hln]; decide));rw [hln] at FG;clear hln;go_enter Tryz.func33,Tryz.ntmps33;go_wp2_with fail;refine (NY.out _).mono ?_;intro e w1 hm;obtain ⟨d,rfl,hd⟩:=aC3 Br hm;clear hm NY;have HD:=Hd hd;clear hd;have pn:=VG ⟨d,0,none⟩;go_wp2_with fail;refine (XI HD.out FG.out.1).mono ?_;rintro e w3 ⟨s,rfl,hs⟩;have BG:=Hd (aBS hs FG.out.2.1 FG.out.2.2.1 FG.out.2.2.2);clear hs HD;have sn:=VF ⟨s,0,none⟩;go_wp2_with fail;refine BG.out.mono ?_;rintro e w4 ⟨t,rfl,h1,h2,h3⟩
 have FIN:=Hd (show TxS w [] w4 t d s 640 [] from ⟨⟨0,h1,h2⟩,h3⟩);clear h1 h2 h3 BG;go_wp2_with fail;go_ret;exact ⟨t,d,s,rfl,FIN.out⟩
theorem JZ {L:List (Int × Int × Int)} (hL:SlL L)(n:Nat)(a b:ByteArray):(slE 0 L ++ fH n a b).length ≤ 290:=by
 have h1:=(oD n a b).n;have h2:=hL.1;rw [List.length_append,kJ];omega
theorem IM {w0 w:World} {R:List Nat} {t d s n:Nat} {L:List (Int × Int × Int)} {a b ky:ByteArray} {sl ep nn k c e:Int} (h:TxS w0 R w t d s 640 (slE 0 L ++ fH n a b))(hL:SlL L)(hn:n ≤ 65535)(h0:n=0 → a=⟨#[]⟩∧b=⟨#[]⟩)(hok:fF sl ep k=true)(n0:0 ≤ nn)(n1:nn ≤ 18446744073709551615)(hky:byR (n:Int) a b k ky true)(hks:ky.size ≤ 140737488351232) {i:Nat} {x:Int × Int × Int} (hx:L[i]?=some x)(hsl:sl=((i + 1:Nat):Int))(hr:aB6 x ep nn c e) :
  Calls Tryz.prog 37 #[.pointer (some ⟨t,0,none⟩),.string (cM sl ep nn k ky)] w fun e' w' => e'=.returned (.tuple #[.int .i64 c,.int .i64 e])∧TxS w0 R w' t d s 640 (slE 0 L ++ fH n a b)∧KeptT R t w w' := by
 obtain ⟨z1,z2,z3,z4,z5,z6,z7⟩:=vM hok n0 n1 ky;have hE:=JZ hL n a b;refine WO (c:=cM sl ep nn k ky)(v:=(n:Int))(a:=a)(b:=b)(ky:=ky)(is:=true)(rc:=c)(re:=e)(y:=c) h ?_ z2 (by omega)(wK hL.1 hn h0)(by rw [z6]; exact hky) hks ?_
 ·rcases hr with ⟨_,h1,h2⟩ | ⟨_,_,h1,h2⟩ | ⟨_,_,_,h1,h2⟩
  ·exact .inr ⟨by rw [h2]; decide,h1⟩
  ·exact .inr ⟨by rw [h2]; decide,h1⟩
  ·exact .inl ⟨h2,rfl⟩
 ·rw [z3,z4,z5,z6,z7]
  exact .inr (.inr ⟨rfl,rfl,fun R w h=>WP h hL (oD n a b) hx hsl hr⟩)
def oR (b:UInt8)(n:Nat):List UInt8:=List.replicate n b ++ List.replicate (32 - n) 0
def WB (b:UInt8):ByteArray:=Str (List.replicate 32 b)
theorem PW (b:UInt8):(WB b).size=32:=by unfold WB; rw [aK,List.length_replicate]
theorem vI (b:UInt8)(n:Nat)(h:n ≤ 32):(oR b n).length=32:=by
 unfold oR;rw [List.length_append,List.length_replicate,List.length_replicate];omega
theorem PR (b:UInt8)(n:Nat)(h:n < 32):(oR b n).set n b=oR b (n + 1):=by
 unfold oR;rw [List.set_append_right _ _ (by simp),List.length_replicate,Nat.sub_self]
 have e:List.replicate (32 - n)(0:UInt8)=0 :: List.replicate (32 - (n + 1)) 0:=by
  rw [← List.replicate_succ]
  congr 1
  omega
 rw [e,List.set_cons_zero,List.replicate_succ', List.append_assoc]
 rfl
theorem aA6 (b:UInt8)(z:Int)(hz:(b.toNat:Int)=z)(w:World) :
  Calls Tryz.prog 35 #[.int .u8 z] w fun e w' => e=.returned (.string (WB b))∧Below w.heap.size w w' := by
 obtain ⟨w2,hmk,hrow,hbel⟩:=sV w 32 32 (Nat.le_refl _)(by decide);have hmk' : (Instr.makeSlice 31 (.int .i64 32)(.int .i64 32)).run Tryz.prog w=.ok (.slice (some ⟨w.heap.size,0,none⟩) 32 32) w2:=hmk;have HR:Hid (Byt 5 w2 w.heap.size (oR b 0)):=Hd hrow;have HB:=Hd hbel;have HZ:=Hd hz;obtain ⟨kt,hkt⟩:∃ x,WB b=x:=⟨_,rfl⟩
 have HKT:=Hd hkt;rw [hkt];clear hmk hrow hbel hz hkt;go_enter Tryz.func35,Tryz.ntmps35;go_wp2_with fail
 go_loopw [4] (fun i wr=>∃ n:Nat,n ≤ 32∧i=.int .i64 (n:Int)∧Hid (Byt 5 wr w.heap.size (oR b n))∧Hid (Below w.heap.size w wr))(fun i _=>33 - (intOf i).toNat)
 case atStart=>exact ⟨0,by omega,rfl,HR,HB⟩
 case round =>
  obtain ⟨n,hn,rfl,HY,HBW⟩:=hrel
  by_cases hlt:n < 32
  ·have hli:(n:Int) < 32:=by omega
   have FIN:=Hd (HY.out.set n b);rw [PR b n hlt] at FIN;have FB:Hid (Below w.heap.size w (wr.setCell ⟨w.heap.size,n,none⟩ (vb b))):=Hd (HBW.out.setCell (Nat.le_refl _) _);obtain ⟨y,c9⟩:∃ y,wr.cell? ⟨w.heap.size,n,none⟩=some y:=⟨_,HY.out.cell n (by rw [vI _ _ hn]; exact hlt)⟩
   have f9:=HY.out.free n;unfold vb at FIN FB;rw [HZ.out] at FIN FB;have HL:=Hd hlt;clear HY HBW hlt hn;go_wp2_with fail;go_roundw
   case rel=>exact ⟨n + 1,HL.out,by go_num,FIN,FB⟩
   case measure=>have:=HL.out; simp [intOf]; omega
  ·obtain rfl:n=32:=by omega
   have hcv:=HY.out.conv 32 32 (by rw [vI _ _ (Nat.le_refl _)]; exact Nat.le_refl _)
   rw [show (oR b 32).take 32=List.replicate 32 b from by
    unfold oR;rw [Nat.sub_self,List.replicate_zero,List.append_nil,List.take_of_length_le (by rw [List.length_replicate]; exact Nat.le_refl _)],show Str (List.replicate 32 b)=kt from HKT.out] at hcv
   go_wp2_with fail;go_ret;exact ⟨rfl,HBW.out⟩
theorem aBI {R:List Nat} {t:Nat} {w:World} {g:Nat} {T:TypeId} {z:Int} (hg:g ∈ R)(hn:g ≠ t)(h:w.heap[g]?=some (.cells #[.int .u64 z] T)):DrwS R t w (some ⟨g,0,none⟩) [z]:=fun j y hy=>by
 cases j with
 | zero =>
  obtain rfl:z=y:=by simpa using hy
  exact ⟨g,rfl,hg,hn,(aM h).1⟩
 | succ j=>simp at hy
theorem uW:SlL []:=⟨by decide,fun j x h=>by simp at h⟩
theorem UJ (L:List (Int × Int × Int)):slE 0 L ++ fH 0 ⟨#[]⟩ ⟨#[]⟩=slE 0 L:=List.append_nil _
theorem tP (w:World) :
  Calls Tryz.prog 25 #[] w fun e w' => e=.returned (.bool true)∧Below w.heap.size w w' := by
 have MD:=Hd (PJ w);have KK:=Hd (fun w=>aA6 1 1 rfl w);have hks:=PW 1;obtain ⟨K,hK⟩:∃ K,WB 1=K:=⟨_,rfl⟩
 rw [hK] at KK hks;have HKS:=Hd hks;clear hK hks;go_enter Tryz.func25,Tryz.ntmps25;try simp only [List.append_eq,List.cons_append,List.nil_append]
 go_wp2_with fail;refine MD.out.mono ?_;rintro e w1 ⟨t,d,s,rfl,h1⟩;have pn:=VE ⟨t,0,none⟩;have HT1:=Hd h1;clear h1 MD;go_wp2_with fail;refine (KK.out _).mono ?_;rintro e w2 ⟨rfl,b2⟩;have RO:=Hd (IL (n:=0)(L:=[])(a:=⟨#[]⟩)(b:=⟨#[]⟩)(c:=K)(by rw [UJ]; exact HT1.out.below b2)(by decide)(by decide)(fun _=>⟨rfl,rfl⟩)(by decide) HKS.out);clear b2;go_wp2_with fail;refine RO.out.mono ?_;rintro e w3 ⟨rfl,h1,_⟩;obtain ⟨a1,a2,a3,a4,a5,a6,a7⟩:=h1.box (.cells #[.int .u64 9] 35);obtain ⟨bd,hbd⟩:∃ r3,w3.heap.size=r3:=⟨_,rfl⟩
 obtain ⟨x1,hx1⟩:∃ xx,w3.alloc (.cells #[.int .u64 9] 35)=xx:=⟨_,rfl⟩
 rw [hx1] at a1 a2 a3 a5;rw [hbd] at a1 a3 a4 a5 a6 a7;have X1:=Hd (And.intro hx1 hbd);have hRI:=wK (L:=[])(n:=1)(a:=K)(b:=⟨#[]⟩)(by decide)(by decide)(fun h=>by cases h);have hLL:=uW
 have SE:=Hd (WM (D:=[9])(k:=0)(ca:=5)(v:=1)(sl:=1)(ep:=1)(z:=9)(ka:=K)(kb:=⟨#[]⟩)(cp:=1) a1 (aBI (by simp) a4 a3)(Nat.le_trans (JZ hLL 1 K ⟨#[]⟩)(by decide)) hRI (by decide)(by decide)(fun j z hj=>by omega)(by decide) rfl (by decide)(by have:=HKS.out; omega)(by decide)(fun R w h=>by
  have:=PE (ca:=5)(nc:=9) h hLL (oD 1 K ⟨#[]⟩)(by decide)(by decide)(fun x hx=>by cases hx)(by decide)(fun x hx=>by cases hx);exact this.mono fun _ _ g=>⟨g.1,g.2.1,g.2.2.1⟩))
 have hL1:SlL ([] ++ [(5,1,9)]):=uW.snoc (by decide)(by decide);have HL1:=Hd hL1;obtain ⟨S,hS⟩:∃ S,cM 1 1 9 1 K=S:=⟨_,rfl⟩
 have hsz:=(vM (s:=1)(ep:=1)(nn:=9)(k:=1)(by decide)(by decide)(by decide) K).1;rw [hS] at SE hsz;have HSZ:=Hd (show (S.size:Int)=29 by omega);have HS:=Hd hS;clear h1 RO hx1 hbd a1 a2 a3 a4 a5 a6 a7 hRI hLL hL1 hsz hS;go_upto_region 5 with fail
 go_wp2_with fail;rw [X1.out.1,X1.out.2];refine SE.out.mono ?_;rintro e w4 ⟨rfl,h1,_⟩;have OP:=IM (sl:=1)(ep:=1)(nn:=9)(k:=1)(c:=5)(e:=0)(ky:=K)(i:=0)(x:=(5,1,9)) h1 HL1.out (by decide)(fun h=>by cases h)(by decide)(by decide)(by decide)(.inl ⟨rfl,rfl,rfl⟩)(by have:=HKS.out; omega) rfl rfl (.inr (.inr ⟨rfl,rfl,by decide,rfl,rfl⟩));rw [HS.out] at OP;have OP:=Hd OP;clear h1 SE;go_wp2_with fail;refine OP.out.mono ?_;rintro e w5 ⟨rfl,h1,_⟩;have OF:=Hd (IP (c:=⟨#[]⟩) h1 (by decide));clear h1 OP;go_wp2_with fail
 refine OF.out.mono ?_;rintro e w6 ⟨rfl,h1,_⟩;have FIN:=Hd h1.from;have hsz:=HSZ.out;clear h1 OF;go_wp2_with fail;go_ret;exact ⟨rfl,FIN.out⟩
open Go.RowKit
def fQ (m size:Nat):Nat → Array Value
 | 0=>(List.replicate size (.int .u8 0)).toArray
 | k + 1=>(fQ m size k).setIfInBounds (size - 1 - k)(.int .u8 (((m / 256 ^ k:Nat):Int) % 256))
theorem qN (m size k:Nat):(fQ m size k).size=size:=by
 induction k with
 | zero=>simp [fQ]
 | succ k ih=>simp [fQ,ih]
theorem OA (m size k j:Nat)(hj:j < size):∃ v,(fQ m size k)[j]?=some v :=
 ⟨(fQ m size k)[j]'(by rw [qN]; omega),Array.getElem?_eq_getElem _⟩
theorem FQ (m size k j:Nat)(hk:k ≤ size)(hj:j < size)(hjk:size - 1 - j < k) :
  (fQ m size k)[j]?=some (.int .u8 (((m / 256 ^ (size - 1 - j):Nat):Int) % 256)):=by
 induction k with
 | zero=>omega
 | succ k ih =>
  rw [fQ]
  by_cases e:j=size - 1 - k
  ·have ek:size - 1 - j=k:=by omega
   rw [ek,← e,Array.getElem?_setIfInBounds_self_of_lt (by rw [qN]; omega)]
  ·rw [Array.getElem?_setIfInBounds_ne (by omega)]
   exact ih (by omega)(by omega)
theorem NZ (m size j:Nat)(hj:j < (M.be size m).length) :
  (fQ m size size)[j]?=some (.int .u8 (((M.be size m)[j]).toNat:Int)):=by
 have hj' : j < size:=by rwa [M.be_length] at hj
 rw [FQ _ _ _ _ (Nat.le_refl _) hj' (by omega)];have:=M.be_get size m j hj';rw [List.getElem?_eq_getElem hj] at this;rw [Option.some.inj this,UInt8.toNat_ofNat', Nat.mod_mod_of_dvd _ (by decide)];simp
theorem aAE (size:Nat)(h:size ≤ 8)(W:World):(Instr.makeSlice 31 (.int .i64 (size:Int))(.int .i64 (size:Int))).run Tryz.prog W =
  .ok (.slice (some ⟨W.heap.size,0,none⟩) size size)(W.alloc (.cells (fQ 0 size 0) 5)):=by
 have hinfo:(Tryz.prog.info? 5).map (fun i=>(i.zero,i.size,i.bytes))=some (some (.int .u8 0),1,1):=by kernel_rfl
 obtain ⟨i0,hi,hz0,hz1,hz2⟩:=info_parts hinfo;have:=run_make (P:=Tryz.prog) W 31 5 i0 (.int .u8 0) Tryz.underlying31 hi hz0 .i64 .i64 size size (by omega)(by omega)(by rw [hz2]; omega)(by omega);rw [this,hz1]
 have e:madeCells (Value.int .u8 0).cells (size * 1)=fQ 0 size 0:=by
  apply Array.toList_inj.1;rw [show (Value.int .u8 0).cells=#[.int .u8 0] from rfl,toList_madeCells_one];simp [fQ]
 simp only [Int.toNat_natCast,e]
theorem XU (m k:Nat):(m:Int) / 256 ^ k / 256=((m / 256 ^ (k + 1):Nat):Int):=by
 rw [Nat.pow_succ,← Nat.div_div_eq_div_mul]; simp
theorem NT (m:Nat)(size:Nat)(w:World)(_hmm:m ≤ 18446744073709551615)(h1:1 ≤ size)(h8:size ≤ 8)(hf:size < 8 → m / 2 ^ (8 * size)=0) :
  Calls Tryz.prog 131 #[.int .u64 (m:Int),.int .i64 size] w fun e w' => e=.returned (.tuple #[.string (Str (M.be size m)),.bool true])∧Below w.heap.size w w' := by
 have hf' : size < 8 → (m:Int) / 2 ^ (8 * size)=0:=fun h=>by have:=hf h; exact_mod_cast this
 have hcells:=fun j hj=>NZ m size j hj
 have hconv:=run_convert_bytes_back (P:=Tryz.prog)(w.alloc (.cells (fQ m size size) 5)) 31 9 5 ⟨w.heap.size,0,none⟩ size (M.be size m) Tryz.underlying31 Tryz.underlying5 Tryz.underlying9 (fun j hj=>by
  have:=hcells j hj;rw [show (⟨w.heap.size,0,none⟩:Addr).add j=⟨w.heap.size,j,none⟩ by unfold Addr.add; split <;> simp_all];rw [← this]; simp)
 rw [M.be_length] at hconv;have HC:=Hd hconv;have HMK:=aAE size h8;have HF:=Hd hf';clear hconv hcells hf hf'
 by_cases hs:size < 8
 all_goals
  have h2:=HF.out
  first | (have h3:=h2 hs; clear h2) | clear h2
  go_enter Tryz.func131,Tryz.ntmps131;go_wp2_with fail
  go_loopw [0,7] (fun n i wr=>∃ k:Nat,k ≤ size∧i=.int .i64 ((size:Int) - 1 - k)∧n=.int .u64 ((m / 256 ^ k:Nat):Int)∧wr=w.alloc (.cells (fQ m size k) 5))(fun _ i _=>(intOf i + 1).toNat)
  case atStart=>exact ⟨0,Nat.zero_le _,by simp,by simp,rfl⟩
  case round =>
   obtain ⟨k,hk,rfl,rfl,rfl⟩:=hrel
   by_cases hlt:k < size
   ·obtain ⟨v,hv⟩:=OA m size k (size - 1 - k)(by omega)
    go_wp2
    go_roundw
    case rel=>exact ⟨k + 1,by omega,by go_num,by rw [XU],rfl⟩
    case measure=>simp [intOf]; omega
   ·obtain rfl:k=size:=by omega
    have hconv:=HC.out
    go_wp2
    go_ret2;exact ⟨rfl,Br.alloc (Nat.le_refl _) _⟩
theorem AG (n size:Int)(w:World)(h:¬ (1 ≤ size∧size ≤ 8)) :
  Calls Tryz.prog 131 #[.int .u64 n,.int .i64 size] w fun e w' => e=.returned (.tuple #[.string ⟨#[]⟩,.bool false])∧w=w' := by
 have h' : size < 1 ∨ 8 < size:=by omega
 clear h
 rcases h' with h | h
 all_goals
  go_enter Tryz.func131,Tryz.ntmps131
  go_wp2
  go_ret2;exact ⟨rfl,rfl⟩
theorem AF (n:Int)(size:Nat)(w:World)(h1:1 ≤ size)(h8:size < 8)(hf:0 < n / 2 ^ (8 * size)) :
  Calls Tryz.prog 131 #[.int .u64 n,.int .i64 size] w fun e w' => e=.returned (.tuple #[.string ⟨#[]⟩,.bool false])∧w=w' := by
 go_enter Tryz.func131,Tryz.ntmps131
 go_wp2
 go_ret2;exact ⟨rfl,rfl⟩
theorem FP (n size:Int)(w:World)(h0:0 ≤ n)(hm:n ≤ 18446744073709551615) :
  Calls Tryz.prog 131 #[.int .u64 n,.int .i64 size] w fun e w' => e=.returned (.tuple #[.string (Str (aL n size)),.bool (cE n size)])∧Below w.heap.size w w' := by
 obtain ⟨m,rfl⟩:=Int.eq_ofNat_of_zero_le h0
 by_cases h:1 ≤ size∧size ≤ 8
 ·obtain ⟨s,rfl⟩:=Int.eq_ofNat_of_zero_le (show 0 ≤ size by omega)
  cases hk:cE (m:Int)(s:Int)
  ·have hf:¬ m / 2 ^ (8 * s)=0:=by
    intro hf;simp only [cE,h,and_self,decide_true,Bool.true_and,beq_eq_false_iff_ne,show (8 * (s:Int)).toNat=8 * s by omega] at hk;apply hk
    exact_mod_cast hf
   have h8:s < 8:=by
    rcases Nat.lt_or_ge s 8 with h' | h'
    ·exact h'
    ·exfalso
     apply hf;apply Nat.div_eq_of_lt;have e:s=8:=by omega
     subst e;have e:(2:Nat) ^ (8 * 8)=18446744073709551616:=by simp
     rw [e]; omega
   have hf' : 0 < (m:Int) / 2 ^ (8 * s):=by
    have:0 < m / 2 ^ (8 * s):=Nat.pos_of_ne_zero hf
    exact_mod_cast this
   refine (AF m s w (by omega) h8 hf').mono ?_;rintro e w' ⟨rfl,rfl⟩;exact ⟨by simp [aL,hk,Str],Br⟩
  ·have hf:m / 2 ^ (8 * s)=0:=by
    simp only [cE,Bool.and_eq_true,beq_iff_eq,show (8 * (s:Int)).toNat=8 * s by omega] at hk
    exact_mod_cast hk.2
   refine (NT m s w (by omega)(by omega)(by omega)(fun _=>hf)).mono ?_;rintro e w' ⟨rfl,hb⟩;exact ⟨by simp [aL,hk],hb⟩
 ·refine (AG _ size w h).mono ?_
  rintro e w' ⟨rfl,rfl⟩;have hk:cE (m:Int) size=false:=by simp [cE,h]
  exact ⟨by simp [aL,hk,Str],Br⟩
theorem EZ (b:ByteArray)(size:Nat)(w:World)(h1:1 ≤ size)(h8:size ≤ 8)(hl:size ≤ b.size) :
  Calls Tryz.prog 69 #[.string b,.int .i64 size] w fun e w' => e=.returned (.tuple #[.int .u64 (M.val (b.data.toList.take size)),.string (b.extract size b.size),.int .i64 0])∧Below w.heap.size w w' := by
 have ht:decide (b.size < size)=false:=by simp; omega
 have ht1:decide ((size:Int) < 1)=false:=by simp; omega
 have ht2:decide (8 < (size:Int))=false:=by simp; omega
 go_enter Tryz.func69,Tryz.ntmps69
 go_wp2
 go_loop [7,8] (fun n i=>∃ k:Nat,k ≤ size∧i=.int .i64 k∧n=.int .u64 (M.val (b.data.toList.take k)))(fun _ i=>size - (intOf i).toNat)
 case atStart=>exact ⟨0,Nat.zero_le _,rfl,rfl⟩
 case round =>
  obtain ⟨k,hk,rfl,rfl⟩:=hrel
  by_cases hlt:k < size
  ·go_wp2
   go_round
   case rel=>exact ⟨k + 1,by omega,by go_num,by rw [yE b k (by omega),← KU _ _ (yG b k (by omega))]⟩
   case measure=>simp [intOf]; omega
  ·obtain rfl:k=size:=by omega
   go_wp2
   go_region
   all_goals go_wp2
   all_goals go_ret3
   all_goals exact ⟨rfl,Br.drew⟩
theorem wM (b:ByteArray)(size:Int)(w:World)(h:¬ (1 ≤ size∧size ≤ 8)) :
  Calls Tryz.prog 69 #[.string b,.int .i64 size] w fun e w' => e=.returned (.tuple #[.int .u64 0,.string ⟨#[]⟩,.int .i64 1])∧w=w' := by
 have h' : size < 1 ∨ 8 < size:=by omega
 clear h
 rcases h' with h | h
 all_goals
  go_enter Tryz.func69,Tryz.ntmps69
  go_wp2
  go_ret3;exact ⟨rfl,rfl⟩
theorem uA (b:ByteArray)(size:Int)(w:World)(h1:1 ≤ size)(h8:size ≤ 8)(hl:(b.size:Int) < size) :
  Calls Tryz.prog 69 #[.string b,.int .i64 size] w fun e w' => e=.returned (.tuple #[.int .u64 0,.string ⟨#[]⟩,.int .i64 2])∧w=w' := by
 go_enter Tryz.func69,Tryz.ntmps69
 go_wp2
 go_ret3;exact ⟨rfl,rfl⟩
theorem dK (b:ByteArray)(size:Int)(w:World) :
  Calls Tryz.prog 69 #[.string b,.int .i64 size] w fun e w' => e=.returned (.tuple #[.int .u64 (aC b size),.string (aA b size),.int .i64 (cH b size)])∧Below w.heap.size w w' := by
 by_cases h:1 ≤ size∧size ≤ 8
 ·by_cases hl:size ≤ b.size
  ·have hk:cC b size=true:=by simp [cC,h,hl]
   obtain ⟨s,rfl⟩:=Int.eq_ofNat_of_zero_le (show 0 ≤ size by omega);refine (EZ b s w (by omega)(by omega)(by omega)).mono ?_;rintro e w' ⟨rfl,hb⟩;exact ⟨by simp [aC,aA,cH,hk],hb⟩
  ·refine (uA b size w h.1 h.2 (by omega)).mono ?_
   rintro e w' ⟨rfl,rfl⟩;exact ⟨by simp [aC,aA,cH,cC,h,hl],Br⟩
 ·refine (wM b size w h).mono ?_
  rintro e w' ⟨rfl,rfl⟩;exact ⟨by simp [aC,aA,cH,cC,h],Br⟩
theorem sI (key:ByteArray)(m:UInt8)(z:Int)(hzm:(m.toNat:Int)=z)(w:World)(hk:key.size ≤ 64)(L:List UInt8)(HL:Hid ((lK key.data.toList).map (· ^^^ m)=L)) :
  Calls Tryz.prog 133 #[.string key,.int .u8 z] w fun e w' => e=.returned (.string (Str L))∧Below w.heap.size w w' := by
 subst hzm;have hr:=run_make (P:=Tryz.prog) w 31 5 Tryz.t5 (.int .u8 0) Tryz.underlying31 (by kernel_rfl)(by kernel_rfl) .i64 .i64 64 64 (by omega)(by omega)(by decide)(by omega)
 have hmk:(Instr.makeSlice 31 (.int .i64 64)(.int .i64 64)).run Tryz.prog w=.ok (.slice (some ⟨w.heap.size,0,none⟩) 64 64)(w.alloc (.cells (ByS (List.replicate 64 0)) 5)):=hr.trans (by
  have:madeCells (Value.int .u8 0).cells (Int.toNat 64 * (Tryz.t5).size)=ByS (List.replicate 64 0):=by kernel_rfl
  rw [this]
  rfl)
 clear hr;have HZ:Hid (BytS 5 (w.alloc (.cells (ByS (List.replicate 64 0)) 5)) w.heap.size (List.replicate 64 0)):=Hd (han w _);have HB0:Hid (Below w.heap.size w (w.alloc (.cells (ByS (List.replicate 64 0)) 5))):=Hd (Br.alloc (Nat.le_refl _) _);generalize hw1:w.alloc (.cells (ByS (List.replicate 64 0)) 5)=w1 at *;clear hw1;have hl64:=Hd (kN key.data.toList (by simpa using hk))
 have HB1:=Hd (below_setRow HB0.out (Nat.le_refl w.heap.size)(((ByS (List.replicate 64 0)).toList.take 0 ++ Lib.byteCells key.data.toList ++ (ByS (List.replicate 64 0)).toList.drop (0 + key.size)).toArray))
 have HT:Hid (BytS 5 (w1.setRow w.heap.size (((ByS (List.replicate 64 0)).toList.take 0 ++ Lib.byteCells key.data.toList ++ (ByS (List.replicate 64 0)).toList.drop (0 + key.size)).toArray)) w.heap.size (dM (lK key.data.toList) m 0)):=Hd (by
  have h:=setRow_heap w1 w.heap.size _ (((ByS (List.replicate 64 0)).toList.take 0 ++ Lib.byteCells key.data.toList ++ (ByS (List.replicate 64 0)).toList.drop (0 + key.size)).toArray) _ (0,0) HZ.out;rw [qG];unfold BytS;rw [h,YA key hk])
 have hcp:=Lib.run_copy_row_string (P:=Tryz.prog) w1 31 9 3 5 w.heap.size 0 64 64 key (ByS (List.replicate 64 0)) 5 Tryz.underlying31 (by kernel_rfl) HZ.out hk (by simp [ByS]; exact hk);generalize World.setRow _ _ _=w2 at *;go_enter Tryz.func133,Tryz.ntmps133;go_wp2_with fail;generalize hKEY:lK key.data.toList=KEY at *;clear hKEY hk
 go_loopw [6] (fun i wr=>∃ n:Nat,n ≤ 64∧i=.int .i64 (n:Int)∧Hid (BytS 5 wr w.heap.size (dM KEY m n))∧Hid (Below w.heap.size w wr))(fun i _=>65 - (intOf i).toNat)
 case atStart=>exact ⟨0,by omega,rfl,HT,HB1⟩
 case round =>
  obtain ⟨n,hn,rfl,HY,HB⟩:=hrel
  by_cases hlt:n < 64
  ·have hli:(n:Int) < 64:=by omega
   have hnk:n < KEY.length:=by rw [hl64.out]; exact hlt
   have hx:bits .xor .u8 (KEY[n].toNat:Int)(m.toNat:Int)=(((KEY[n] ^^^ m).toNat:Nat):Int):=by
    rw [kG _ _ KEY[n].toNat_lt m.toNat_lt]; rfl
   have c9:=HY.out.cell n (by rw [dU]; exact hnk)
   have hget:(dM KEY m n)[n]'(by rw [dU]; exact hnk)=KEY[n]:=by
    have:=rR KEY m n hnk;rw [List.getElem?_eq_getElem (by rw [dU]; exact hnk)] at this;injection this
   rw [hget] at c9;have f9:=HY.out.free n
   have FIN:Hid (BytS 5 (wr.setCell ⟨w.heap.size,n,none⟩ (.int .u8 (((KEY[n] ^^^ m).toNat:Nat):Int))) w.heap.size (dM KEY m (n + 1))):=Hd (by
    have:=HY.out.set n (KEY[n] ^^^ m);rwa [qH KEY m n hnk] at this)
   have FB:Hid (Below w.heap.size w (wr.setCell ⟨w.heap.size,n,none⟩ (.int .u8 (((KEY[n] ^^^ m).toNat:Nat):Int)))):=Hd (HB.out.setCell (Nat.le_refl _) _);generalize (KEY[n] ^^^ m).toNat=y at *;unfold vbS at c9;generalize KEY[n].toNat=x at *;clear hget HY HB;go_wp2_with fail;go_roundw
   case rel=>exact ⟨n + 1,by omega,by go_num,FIN,FB⟩
   case measure=>simp [intOf]; omega
  ·obtain rfl:n=64:=by omega
   have hli:¬ (((64:Nat):Int) < 64):=by omega
   have hcv:(convert 31 9 (.slice (some ⟨w.heap.size,0,none⟩) 64 64)).run Tryz.prog wr=.ok (.string (Str L)) wr:=by
    have h:=HY.out;rw [rS KEY m 64 (by rw [hl64.out]; exact Nat.le_refl _),HL.out] at h;have hL:L.length=64:=by rw [← HL.out,List.length_map,hl64.out]
    have:=run_convert_bytes_back (P:=Tryz.prog) wr 31 9 5 ⟨w.heap.size,0,none⟩ 64 L Tryz.underlying31 Tryz.underlying5 Tryz.underlying9 (fun j hj=>by
     rw [bU]; simpa [vbS] using h.cell j hj)
    rw [hL] at this;exact this
   go_wp2_with fail;go_ret;exact ⟨rfl,HB.out⟩
theorem iD (key:ByteArray)(m:UInt8)(z:Int)(hz:(m.toNat:Int)=z)(w:World)(hk:key.size ≤ 64) :
  Calls Tryz.prog 133 #[.string key,.int .u8 z] w fun e w' => e=.returned (.string (mL key m))∧Below w.heap.size w w' := sI key m z hz w hk _ (Hd rfl)
end Go.Proofs.YthcejfnngkmojaaGreatDoor
