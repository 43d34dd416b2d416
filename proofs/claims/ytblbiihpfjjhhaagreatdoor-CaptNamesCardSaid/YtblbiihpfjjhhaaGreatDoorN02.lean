/-
 RecCap, RecFt, RecOwner, PutMath, TakePut, RecBackFacts, Kept, Rd, NodeMath, NodeR, NodeS, NodeF.
-/
import Derived.Test.YtblbiihpfjjhhaaGreatDoorN01
import Derived.Laws.AppendOwn
import Derived.Lib.SmallJoins
import Derived.Deep.AppendSrc
import Derived.WalkMore
namespace Go.Proofs.YtblbiihpfjjhhaaGreatDoor
open Go.RowKit
set_option maxRecDepth 20000
set_option maxHeartbeats 12800000
set_option linter.unusedVariables false
set_option linter.unusedSimpArgs false
def oV (b:Bool):Int:=if b=true then 1 else 0
theorem qA (b:Bool):0≤oV b∧oV b≤9223372036854775807:=by cases b <;> decide
theorem iD {n:Int}:fR n n=true ↔ 0≤n∧n≤65535:=by
 have:fR n n=gE n:=by unfold fR; simp
 rw [this,gE,decide_eq_true_eq]
theorem VI (b:Bool) (w:World) :
  Calls Tryz.prog 191 #[.bool b] w fun e w' => e=.returned (.int .i64 (oV b))∧w=w' := by
 cases b
 all_goals
  go_enter Tryz.func191,Tryz.ntmps191
  go_wp2
  go_ret;exact ⟨rfl,rfl⟩
theorem kB (a b:Int) (v:Bool) (w:World) (hv:fR a b=v) :
  Calls Tryz.prog 33 #[.int .i64 a,.int .i64 b] w fun e w' => e=.returned (.bool v)∧w=w' := by
 subst hv;exact VW a b w
def capOk (id:Int) (pa:Int) (ob:Int) (ow:Int) (ri:Int) (ba:Int) (de:Int) (ex:Int) (cu:Int):Bool:=inB 1 16777215 id && inB 0 16777215 pa && (pa != id) && inB 1 16777215 ob && inB 1 16777215 ow && fR ri ri && inB 0 4294967295 ba && inB 1 8 de && ((pa == 0) == (de == 1)) && inB 0 268435455 ex && inB 0 16777215 cu
theorem OF (c0:Bool) (c1:Bool) (c2:Bool) (c3:Bool) (c4:Bool) (c5:Bool) (c6:Bool) (c7:Bool) (c8:Bool) (c9:Bool) (c10:Bool):(c0=false)∨(c0=true∧c1=false)∨(c0=true∧c1=true∧c2=false)∨(c0=true∧c1=true∧c2=true∧c3=false)∨(c0=true∧c1=true∧c2=true∧c3=true∧c4=false)∨(c0=true∧c1=true∧c2=true∧c3=true∧c4=true∧c5=false)∨(c0=true∧c1=true∧c2=true∧c3=true∧c4=true∧c5=true∧c6=false)∨(c0=true∧c1=true∧c2=true∧c3=true∧c4=true∧c5=true∧c6=true∧c7=false)∨(c0=true∧c1=true∧c2=true∧c3=true∧c4=true∧c5=true∧c6=true∧c7=true∧c8=false)∨(c0=true∧c1=true∧c2=true∧c3=true∧c4=true∧c5=true∧c6=true∧c7=true∧c8=true∧c9=false)∨(c0=true∧c1=true∧c2=true∧c3=true∧c4=true∧c5=true∧c6=true∧c7=true∧c8=true∧c9=true∧c10=false)∨(c0=true∧c1=true∧c2=true∧c3=true∧c4=true∧c5=true∧c6=true∧c7=true∧c8=true∧c9=true∧c10=true):=by
 cases c0
 ·exact .inl rfl
 cases c1
 ·exact .inr (.inl ⟨rfl,rfl⟩)
 cases c2
 ·exact .inr (.inr (.inl ⟨rfl,rfl,rfl⟩))
 cases c3
 ·exact .inr (.inr (.inr (.inl ⟨rfl,rfl,rfl,rfl⟩)))
 cases c4
 ·exact .inr (.inr (.inr (.inr (.inl ⟨rfl,rfl,rfl,rfl,rfl⟩))))
 cases c5
 ·exact .inr (.inr (.inr (.inr (.inr (.inl ⟨rfl,rfl,rfl,rfl,rfl,rfl⟩)))))
 cases c6
 ·exact .inr (.inr (.inr (.inr (.inr (.inr (.inl ⟨rfl,rfl,rfl,rfl,rfl,rfl,rfl⟩))))))
 cases c7
 ·exact .inr (.inr (.inr (.inr (.inr (.inr (.inr (.inl ⟨rfl,rfl,rfl,rfl,rfl,rfl,rfl,rfl⟩)))))))
 cases c8
 ·exact .inr (.inr (.inr (.inr (.inr (.inr (.inr (.inr (.inl ⟨rfl,rfl,rfl,rfl,rfl,rfl,rfl,rfl,rfl⟩))))))))
 cases c9
 ·exact .inr (.inr (.inr (.inr (.inr (.inr (.inr (.inr (.inr (.inl ⟨rfl,rfl,rfl,rfl,rfl,rfl,rfl,rfl,rfl,rfl⟩)))))))))
 cases c10
 ·exact .inr (.inr (.inr (.inr (.inr (.inr (.inr (.inr (.inr (.inr (.inl ⟨rfl,rfl,rfl,rfl,rfl,rfl,rfl,rfl,rfl,rfl,rfl⟩))))))))))
 exact .inr (.inr (.inr (.inr (.inr (.inr (.inr (.inr (.inr (.inr (.inr (⟨rfl,rfl,rfl,rfl,rfl,rfl,rfl,rfl,rfl,rfl,rfl⟩)))))))))))
theorem pX (id:Int) (pa:Int) (ob:Int) (ow:Int) (ri:Int) (ba:Int) (de:Int) (ex:Int) (cu:Int) (rv:Bool) (v:Bool) (w:World) (hv:capOk id pa ob ow ri ba de ex cu=v) :
  Calls Tryz.prog 287 #[.agg #[.int .i64 id,.int .i64 pa,.int .i64 ob,.int .i64 ow,.int .i64 ri,.int .i64 ba,.int .i64 de,.int .i64 ex,.int .i64 cu,.bool rv]] w fun e w' => e=.returned (.bool v)∧Below w.heap.size w w' := by
 have hf:v=(inB 1 16777215 id && inB 0 16777215 pa && (pa != id) && inB 1 16777215 ob && inB 1 16777215 ow && fR ri ri && inB 0 4294967295 ba && inB 1 8 de && ((pa == 0) == (de == 1)) && inB 0 268435455 ex && inB 0 16777215 cu):=hv.symm;clear hv
 rcases OF (inB 1 16777215 id) (inB 0 16777215 pa) (pa != id) (inB 1 16777215 ob) (inB 1 16777215 ow) (fR ri ri) (inB 0 4294967295 ba) (inB 1 8 de) ((pa == 0) == (de == 1)) (inB 0 268435455 ex) (inB 0 16777215 cu) with h0 | ⟨h0,h1⟩ | ⟨h0,h1,h2⟩ | ⟨h0,h1,h2,h3⟩ | ⟨h0,h1,h2,h3,h4⟩ | ⟨h0,h1,h2,h3,h4,h5⟩ | ⟨h0,h1,h2,h3,h4,h5,h6⟩ | ⟨h0,h1,h2,h3,h4,h5,h6,h7⟩ | ⟨h0,h1,h2,h3,h4,h5,h6,h7,h8⟩ | ⟨h0,h1,h2,h3,h4,h5,h6,h7,h8,h9⟩ | ⟨h0,h1,h2,h3,h4,h5,h6,h7,h8,h9,h10⟩ | ⟨h0,h1,h2,h3,h4,h5,h6,h7,h8,h9,h10⟩
 ·rw [h0] at hf
  simp only [Bool.and_true,Bool.and_false,Bool.true_and,Bool.false_and] at hf;have HF:=Hd hf;have H0:=Hd h0;clear hf h0;go_enter Tryz.func287,Tryz.ntmps287
  go_wp2_with (first | (go_at_call 286; refine (cT _ _ _ (by first | exact H0.out)).mono ?_; rintro e w9 ⟨rfl,rfl⟩))
  go_ret;exact ⟨by rw [HF.out]; rfl,Br.alloc (Nat.le_refl _) _⟩
 ·rw [h0,h1] at hf
  simp only [Bool.and_true,Bool.and_false,Bool.true_and,Bool.false_and] at hf;have HF:=Hd hf;have H0:=Hd h0;have H1:=Hd h1;clear hf h0 h1;go_enter Tryz.func287,Tryz.ntmps287
  go_wp2_with (first | (go_at_call 286; refine (cT _ _ _ (by first | exact H0.out)).mono ?_; rintro e w9 ⟨rfl,rfl⟩) | (go_at_call 284; refine (cB _ _ _ _ _ (by first | exact H1.out)).mono ?_; rintro e w9 ⟨rfl,rfl⟩))
  go_ret;exact ⟨by rw [HF.out]; rfl,Br.alloc (Nat.le_refl _) _⟩
 ·rw [h0,h1,h2] at hf
  simp only [Bool.and_true,Bool.and_false,Bool.true_and,Bool.false_and] at hf;have HF:=Hd hf;have H0:=Hd h0;have H1:=Hd h1;clear hf h0 h1;go_enter Tryz.func287,Tryz.ntmps287
  go_wp2_with (first | (go_at_call 286; refine (cT _ _ _ (by first | exact H0.out)).mono ?_; rintro e w9 ⟨rfl,rfl⟩) | (go_at_call 284; refine (cB _ _ _ _ _ (by first | exact H1.out)).mono ?_; rintro e w9 ⟨rfl,rfl⟩))
  go_ret;exact ⟨by rw [HF.out]; rfl,Br.alloc (Nat.le_refl _) _⟩
 ·rw [h0,h1,h2,h3] at hf
  simp only [Bool.and_true,Bool.and_false,Bool.true_and,Bool.false_and] at hf;have HF:=Hd hf;have H0:=Hd h0;have H1:=Hd h1;have H3:=Hd h3;clear hf h0 h1 h3;go_enter Tryz.func287,Tryz.ntmps287
  go_wp2_with (first | (go_at_call 286; refine (cT _ _ _ (by first | exact H0.out | exact H3.out)).mono ?_; rintro e w9 ⟨rfl,rfl⟩) | (go_at_call 284; refine (cB _ _ _ _ _ (by first | exact H1.out)).mono ?_; rintro e w9 ⟨rfl,rfl⟩))
  go_ret;exact ⟨by rw [HF.out]; rfl,Br.alloc (Nat.le_refl _) _⟩
 ·rw [h0,h1,h2,h3,h4] at hf
  simp only [Bool.and_true,Bool.and_false,Bool.true_and,Bool.false_and] at hf;have HF:=Hd hf;have H0:=Hd h0;have H1:=Hd h1;have H3:=Hd h3;have H4:=Hd h4;clear hf h0 h1 h3 h4;go_enter Tryz.func287,Tryz.ntmps287
  go_wp2_with (first | (go_at_call 286; refine (cT _ _ _ (by first | exact H0.out | exact H3.out | exact H4.out)).mono ?_; rintro e w9 ⟨rfl,rfl⟩) | (go_at_call 284; refine (cB _ _ _ _ _ (by first | exact H1.out)).mono ?_; rintro e w9 ⟨rfl,rfl⟩))
  go_ret;exact ⟨by rw [HF.out]; rfl,Br.alloc (Nat.le_refl _) _⟩
 ·rw [h0,h1,h2,h3,h4,h5] at hf
  simp only [Bool.and_true,Bool.and_false,Bool.true_and,Bool.false_and] at hf;have HF:=Hd hf;have H0:=Hd h0;have H1:=Hd h1;have H3:=Hd h3;have H4:=Hd h4;have H5:=Hd h5;clear hf h0 h1 h3 h4 h5;go_enter Tryz.func287,Tryz.ntmps287
  go_wp2_with (first | (go_at_call 286; refine (cT _ _ _ (by first | exact H0.out | exact H3.out | exact H4.out)).mono ?_; rintro e w9 ⟨rfl,rfl⟩) | (go_at_call 284; refine (cB _ _ _ _ _ (by first | exact H1.out)).mono ?_; rintro e w9 ⟨rfl,rfl⟩) | (go_at_call 33; refine (kB _ _ _ _ (by first | exact H5.out)).mono ?_; rintro e w9 ⟨rfl,rfl⟩))
  go_ret;exact ⟨by rw [HF.out]; rfl,Br.alloc (Nat.le_refl _) _⟩
 ·rw [h0,h1,h2,h3,h4,h5,h6] at hf
  simp only [Bool.and_true,Bool.and_false,Bool.true_and,Bool.false_and] at hf;have HF:=Hd hf;have H0:=Hd h0;have H1:=Hd h1;have H3:=Hd h3;have H4:=Hd h4;have H5:=Hd h5;have H6:=Hd h6;clear hf h0 h1 h3 h4 h5 h6;go_enter Tryz.func287,Tryz.ntmps287
  go_wp2_with (first | (go_at_call 286; refine (cT _ _ _ (by first | exact H0.out | exact H3.out | exact H4.out)).mono ?_; rintro e w9 ⟨rfl,rfl⟩) | (go_at_call 284; refine (cB _ _ _ _ _ (by first | exact H1.out | exact H6.out)).mono ?_; rintro e w9 ⟨rfl,rfl⟩) | (go_at_call 33; refine (kB _ _ _ _ (by first | exact H5.out)).mono ?_; rintro e w9 ⟨rfl,rfl⟩))
  go_ret;exact ⟨by rw [HF.out]; rfl,Br.alloc (Nat.le_refl _) _⟩
 ·rw [h0,h1,h2,h3,h4,h5,h6,h7] at hf
  simp only [Bool.and_true,Bool.and_false,Bool.true_and,Bool.false_and] at hf;have HF:=Hd hf;have H0:=Hd h0;have H1:=Hd h1;have H3:=Hd h3;have H4:=Hd h4;have H5:=Hd h5;have H6:=Hd h6;have H7:=Hd h7;clear hf h0 h1 h3 h4 h5 h6 h7;go_enter Tryz.func287,Tryz.ntmps287
  go_wp2_with (first | (go_at_call 286; refine (cT _ _ _ (by first | exact H0.out | exact H3.out | exact H4.out)).mono ?_; rintro e w9 ⟨rfl,rfl⟩) | (go_at_call 284; refine (cB _ _ _ _ _ (by first | exact H1.out | exact H6.out | exact H7.out)).mono ?_; rintro e w9 ⟨rfl,rfl⟩) | (go_at_call 33; refine (kB _ _ _ _ (by first | exact H5.out)).mono ?_; rintro e w9 ⟨rfl,rfl⟩))
  go_ret;exact ⟨by rw [HF.out]; rfl,Br.alloc (Nat.le_refl _) _⟩
 ·rw [h0,h1,h2,h3,h4,h5,h6,h7,h8] at hf
  simp only [Bool.and_true,Bool.and_false,Bool.true_and,Bool.false_and] at hf;have HF:=Hd hf;have H0:=Hd h0;have H1:=Hd h1;have H3:=Hd h3;have H4:=Hd h4;have H5:=Hd h5;have H6:=Hd h6;have H7:=Hd h7;clear hf h0 h1 h3 h4 h5 h6 h7;go_enter Tryz.func287,Tryz.ntmps287
  go_wp2_with (first | (go_at_call 286; refine (cT _ _ _ (by first | exact H0.out | exact H3.out | exact H4.out)).mono ?_; rintro e w9 ⟨rfl,rfl⟩) | (go_at_call 284; refine (cB _ _ _ _ _ (by first | exact H1.out | exact H6.out | exact H7.out)).mono ?_; rintro e w9 ⟨rfl,rfl⟩) | (go_at_call 33; refine (kB _ _ _ _ (by first | exact H5.out)).mono ?_; rintro e w9 ⟨rfl,rfl⟩))
  go_ret;exact ⟨by rw [HF.out]; rfl,Br.alloc (Nat.le_refl _) _⟩
 ·rw [h0,h1,h2,h3,h4,h5,h6,h7,h8,h9] at hf
  simp only [Bool.and_true,Bool.and_false,Bool.true_and,Bool.false_and] at hf;have HF:=Hd hf;have H0:=Hd h0;have H1:=Hd h1;have H3:=Hd h3;have H4:=Hd h4;have H5:=Hd h5;have H6:=Hd h6;have H7:=Hd h7;have H9:=Hd h9;clear hf h0 h1 h3 h4 h5 h6 h7 h9;go_enter Tryz.func287,Tryz.ntmps287
  go_wp2_with (first | (go_at_call 286; refine (cT _ _ _ (by first | exact H0.out | exact H3.out | exact H4.out)).mono ?_; rintro e w9 ⟨rfl,rfl⟩) | (go_at_call 284; refine (cB _ _ _ _ _ (by first | exact H1.out | exact H6.out | exact H7.out | exact H9.out)).mono ?_; rintro e w9 ⟨rfl,rfl⟩) | (go_at_call 33; refine (kB _ _ _ _ (by first | exact H5.out)).mono ?_; rintro e w9 ⟨rfl,rfl⟩))
  go_ret;exact ⟨by rw [HF.out]; rfl,Br.alloc (Nat.le_refl _) _⟩
 ·rw [h0,h1,h2,h3,h4,h5,h6,h7,h8,h9,h10] at hf
  simp only [Bool.and_true,Bool.and_false,Bool.true_and,Bool.false_and] at hf;have HF:=Hd hf;have H0:=Hd h0;have H1:=Hd h1;have H3:=Hd h3;have H4:=Hd h4;have H5:=Hd h5;have H6:=Hd h6;have H7:=Hd h7;have H9:=Hd h9;have H10:=Hd h10;clear hf h0 h1 h3 h4 h5 h6 h7 h9 h10;go_enter Tryz.func287,Tryz.ntmps287
  go_wp2_with (first | (go_at_call 286; refine (cT _ _ _ (by first | exact H0.out | exact H3.out | exact H4.out)).mono ?_; rintro e w9 ⟨rfl,rfl⟩) | (go_at_call 284; refine (cB _ _ _ _ _ (by first | exact H1.out | exact H6.out | exact H7.out | exact H9.out | exact H10.out)).mono ?_; rintro e w9 ⟨rfl,rfl⟩) | (go_at_call 33; refine (kB _ _ _ _ (by first | exact H5.out)).mono ?_; rintro e w9 ⟨rfl,rfl⟩))
  go_ret;exact ⟨by rw [HF.out]; rfl,Br.alloc (Nat.le_refl _) _⟩
 ·rw [h0,h1,h2,h3,h4,h5,h6,h7,h8,h9,h10] at hf
  simp only [Bool.and_true,Bool.and_false,Bool.true_and,Bool.false_and] at hf;have HF:=Hd hf;have H0:=Hd h0;have H1:=Hd h1;have H3:=Hd h3;have H4:=Hd h4;have H5:=Hd h5;have H6:=Hd h6;have H7:=Hd h7;have H9:=Hd h9;have H10:=Hd h10;clear hf h0 h1 h3 h4 h5 h6 h7 h9 h10;go_enter Tryz.func287,Tryz.ntmps287
  go_wp2_with (first | (go_at_call 286; refine (cT _ _ _ (by first | exact H0.out | exact H3.out | exact H4.out)).mono ?_; rintro e w9 ⟨rfl,rfl⟩) | (go_at_call 284; refine (cB _ _ _ _ _ (by first | exact H1.out | exact H6.out | exact H7.out | exact H9.out | exact H10.out)).mono ?_; rintro e w9 ⟨rfl,rfl⟩) | (go_at_call 33; refine (kB _ _ _ _ (by first | exact H5.out)).mono ?_; rintro e w9 ⟨rfl,rfl⟩))
  go_ret;exact ⟨by rw [HF.out]; rfl,Br.alloc (Nat.le_refl _) _⟩
theorem rV (id:Int) (pa:Int) (ob:Int) (ow:Int) (ri:Int) (ba:Int) (de:Int) (ex:Int) (cu:Int) (rv:Bool) (w:World):(method 217 179 (.agg #[.int .i64 id,.int .i64 pa,.int .i64 ob,.int .i64 ow,.int .i64 ri,.int .i64 ba,.int .i64 de,.int .i64 ex,.int .i64 cu,.bool rv]) "bailiwick/rec.right").run Tryz.prog w=.ok (287,.agg #[.int .i64 id,.int .i64 pa,.int .i64 ob,.int .i64 ow,.int .i64 ri,.int .i64 ba,.int .i64 de,.int .i64 ex,.int .i64 cu,.bool rv]) w:=by kernel_rfl
theorem AJ (v:Value) (w:World):(Instr.typeAssert (.iface 179 v) 212 179 true).run Tryz.prog w=.ok (.tuple #[v,.bool true]) w:=by kernel_rfl
theorem JO (N:Int→Int→ByteArray) (x:ByteArray) (id:Int) (pa:Int) (ob:Int) (ow:Int) (ri:Int) (ba:Int) (de:Int) (ex:Int) (cu:Int) (rv:Bool) (w:World) (g0:0≤pa) (l0:pa≤9223372036854775807) (g1:0≤ob) (l1:ob≤9223372036854775807) (g2:0≤ow) (l2:ow≤9223372036854775807) (g3:0≤ri) (l3:ri≤9223372036854775807) (g4:0≤ba) (l4:ba≤9223372036854775807) (g5:0≤de) (l5:de≤9223372036854775807) (g6:0≤ex) (l6:ex≤9223372036854775807) (g7:0≤cu) (l7:cu≤9223372036854775807)
  (HN:Hid (∀ (n size:Int) (w:World),0≤n→n≤9223372036854775807→Calls Tryz.prog 190 #[.int .i64 n,.int .i64 size] w fun e w' => e=.returned (.string (N n size))∧Below w.heap.size w w')) (NS:Hid (∀ n size:Int,size≤8→(N n size).size≤8)) :
  Calls Tryz.prog 170 #[.iface 179 (.agg #[.int .i64 id,.int .i64 pa,.int .i64 ob,.int .i64 ow,.int .i64 ri,.int .i64 ba,.int .i64 de,.int .i64 ex,.int .i64 cu,.bool rv])] w fun e w' => e=.returned (.string (N pa 3 ++ N ob 3 ++ N ow 3 ++ N ri 2 ++ N ba 4 ++ N de 1 ++ N ex 4 ++ N cu 3 ++ N (oV rv) 1))∧Below w.heap.size w w' := by
 have q1:=AJ (.agg #[.int .i64 id,.int .i64 pa,.int .i64 ob,.int .i64 ow,.int .i64 ri,.int .i64 ba,.int .i64 de,.int .i64 ex,.int .i64 cu,.bool rv]);have z0:=NS.out pa 3 (by omega);have z1:=NS.out ob 3 (by omega);have z2:=NS.out ow 3 (by omega);have z3:=NS.out ri 2 (by omega);have z4:=NS.out ba 4 (by omega);have z5:=NS.out de 1 (by omega);have z6:=NS.out ex 4 (by omega);have z7:=NS.out cu 3 (by omega);have z8:=NS.out (oV rv) 1 (by omega);have s1:(9223372036854775807 < (N pa 3).size + (N ob 3).size)=False:=by rw [eq_iff_iff,iff_false]; omega
 have s2:(9223372036854775807 < (N pa 3).size + (N ob 3).size + (N ow 3).size)=False:=by rw [eq_iff_iff,iff_false]; omega
 have s3:(9223372036854775807 < (N pa 3).size + (N ob 3).size + (N ow 3).size + (N ri 2).size)=False:=by rw [eq_iff_iff,iff_false]; omega
 have s4:(9223372036854775807 < (N pa 3).size + (N ob 3).size + (N ow 3).size + (N ri 2).size + (N ba 4).size)=False:=by rw [eq_iff_iff,iff_false]; omega
 have s5:(9223372036854775807 < (N pa 3).size + (N ob 3).size + (N ow 3).size + (N ri 2).size + (N ba 4).size + (N de 1).size)=False:=by rw [eq_iff_iff,iff_false]; omega
 have s6:(9223372036854775807 < (N pa 3).size + (N ob 3).size + (N ow 3).size + (N ri 2).size + (N ba 4).size + (N de 1).size + (N ex 4).size)=False:=by rw [eq_iff_iff,iff_false]; omega
 have s7:(9223372036854775807 < (N pa 3).size + (N ob 3).size + (N ow 3).size + (N ri 2).size + (N ba 4).size + (N de 1).size + (N ex 4).size + (N cu 3).size)=False:=by rw [eq_iff_iff,iff_false]; omega
 have s8:(9223372036854775807 < (N pa 3).size + (N ob 3).size + (N ow 3).size + (N ri 2).size + (N ba 4).size + (N de 1).size + (N ex 4).size + (N cu 3).size + (N (oV rv) 1).size)=False:=by rw [eq_iff_iff,iff_false]; omega
 clear z0 z1 z2 z3 z4 z5 z6 z7 z8;go_enter Tryz.func170,Tryz.ntmps170;go_wp2_with fail;obtain ⟨w1,hw1⟩:∃ w1,w.alloc (.cells #[.int .i64 id,.int .i64 pa,.int .i64 ob,.int .i64 ow,.int .i64 ri,.int .i64 ba,.int .i64 de,.int .i64 ex,.int .i64 cu,.bool rv] 179)=w1:=⟨_,rfl⟩
 have hlt:w.heap.size < w1.heap.size:=by rw [← hw1]; simp
 have CC:Hid (∀ w', Below w1.heap.size w1 w'→w'.cell? ⟨w.heap.size,1,none⟩=some (.int .i64 pa)∧w'.cell? ⟨w.heap.size,2,none⟩=some (.int .i64 ob)∧w'.cell? ⟨w.heap.size,3,none⟩=some (.int .i64 ow)∧w'.cell? ⟨w.heap.size,4,none⟩=some (.int .i64 ri)∧w'.cell? ⟨w.heap.size,5,none⟩=some (.int .i64 ba)∧w'.cell? ⟨w.heap.size,6,none⟩=some (.int .i64 de)∧w'.cell? ⟨w.heap.size,7,none⟩=some (.int .i64 ex)∧w'.cell? ⟨w.heap.size,8,none⟩=some (.int .i64 cu)∧w'.cell? ⟨w.heap.size,9,none⟩=some (.bool rv)):=Hd fun w' h=>by
  refine ⟨?_,?_,?_,?_,?_,?_,?_,?_,?_⟩
  all_goals
   rw [h.cell hlt,← hw1];simp
 have bb:Below w.heap.size w w1:=by rw [← hw1]; exact Br.alloc (Nat.le_refl _) _
 rw [hw1];clear hw1 hlt q1;have B0:Below w1.heap.size w1 w1:=Br;have C0:=CC.out w1 B0
 go_region_held3 (fun w' => Below w1.heap.size w1 w'∧w'.cell? ⟨w.heap.size,1,none⟩=some (.int .i64 pa)∧w'.cell? ⟨w.heap.size,2,none⟩=some (.int .i64 ob)∧w'.cell? ⟨w.heap.size,3,none⟩=some (.int .i64 ow)∧w'.cell? ⟨w.heap.size,4,none⟩=some (.int .i64 ri)∧w'.cell? ⟨w.heap.size,5,none⟩=some (.int .i64 ba)∧w'.cell? ⟨w.heap.size,6,none⟩=some (.int .i64 de)∧w'.cell? ⟨w.heap.size,7,none⟩=some (.int .i64 ex)∧w'.cell? ⟨w.heap.size,8,none⟩=some (.int .i64 cu)∧w'.cell? ⟨w.heap.size,9,none⟩=some (.bool rv)) (first | assumption | exact ⟨B0.drew,CC.out _ B0.drew⟩ | exact IL CC.out ⟨B0.drew,CC.out _ B0.drew⟩ b9 | exact IL CC.out (by assumption) b9) ((first | (go_at_call 190; refine (HN.out _ _ _ (by first | omega | exact (qA _).1) (by first | omega | exact (qA _).2)).mono ?_; rintro e w9 ⟨rfl,b9⟩) | (go_at_call 191; refine (VI _ _).mono ?_; rintro e w9 ⟨rfl,rfl⟩)))
 rename_i hH;go_wp2_with fail;go_ret;exact ⟨rfl,chain bb hH.1⟩
def oP (pa:Int) (ob:Int) (ow:Int) (ri:Int) (ba:Int) (de:Int) (ex:Int) (cu:Int) (rv:Bool):ByteArray:=Str (aJ pa 3) ++ Str (aJ ob 3) ++ Str (aJ ow 3) ++ Str (aJ ri 2) ++ Str (aJ ba 4) ++ Str (aJ de 1) ++ Str (aJ ex 4) ++ Str (aJ cu 3) ++ Str (aJ (oV rv) 1)
theorem UU {id:Int} {pa:Int} {ob:Int} {ow:Int} {ri:Int} {ba:Int} {de:Int} {ex:Int} {cu:Int} (h:capOk id pa ob ow ri ba de ex cu=true):(0≤pa∧pa≤9223372036854775807)∧(0≤ob∧ob≤9223372036854775807)∧(0≤ow∧ow≤9223372036854775807)∧(0≤ri∧ri≤9223372036854775807)∧(0≤ba∧ba≤9223372036854775807)∧(0≤de∧de≤9223372036854775807)∧(0≤ex∧ex≤9223372036854775807)∧(0≤cu∧cu≤9223372036854775807):=by
 unfold capOk at h;simp only [Bool.and_eq_true,dY,iD] at h;omega
theorem aAD (id:Int) (pa:Int) (ob:Int) (ow:Int) (ri:Int) (ba:Int) (de:Int) (ex:Int) (cu:Int) (rv:Bool) (w:World) (h:capOk id pa ob ow ri ba de ex cu=true) :
  Calls Tryz.prog 170 #[.iface 179 (.agg #[.int .i64 id,.int .i64 pa,.int .i64 ob,.int .i64 ow,.int .i64 ri,.int .i64 ba,.int .i64 de,.int .i64 ex,.int .i64 cu,.bool rv])] w fun e w' => e=.returned (.string (oP pa ob ow ri ba de ex cu rv))∧Below w.heap.size w w' := by
 have hi:=UU h;obtain ⟨k0,k1,k2,k3,k4,k5,k6,k7⟩:=hi;exact JO (fun n size=>Str (aJ n size)) ⟨#[]⟩ id pa ob ow ri ba de ex cu rv w k0.1 k0.2 k1.1 k1.2 k2.1 k2.2 k3.1 k3.2 k4.1 k4.2 k5.1 k5.2 k6.1 k6.2 k7.1 k7.2 (Hd fun n size w h0 h1=>rS n size w h0 h1) (Hd fun n size h=>uA n size h)
theorem rM (id:Int) (pa:Int) (ob:Int) (ow:Int) (ri:Int) (ba:Int) (de:Int) (ex:Int) (cu:Int) (rv:Bool) (w:World) (hv:capOk id pa ob ow ri ba de ex cu=false) :
  Calls Tryz.prog 149 #[.iface 179 (.agg #[.int .i64 id,.int .i64 pa,.int .i64 ob,.int .i64 ow,.int .i64 ri,.int .i64 ba,.int .i64 de,.int .i64 ex,.int .i64 cu,.bool rv])] w fun e w' => e=.returned (.tuple #[.string ⟨#[]⟩,.int .i64 1])∧Below w.heap.size w w' := by
 have H:=Hd hv;have hm:=rV id pa ob ow ri ba de ex cu rv;clear hv;go_enter Tryz.func149,Tryz.ntmps149;go_wp2_with fail;refine (pX _ _ _ _ _ _ _ _ _ _ false _ H.out).mono ?_;rintro e w1 ⟨rfl,b1⟩;go_wp2_with fail;go_ret2;exact ⟨rfl,b1⟩
theorem pQ (id:Int) (pa:Int) (ob:Int) (ow:Int) (ri:Int) (ba:Int) (de:Int) (ex:Int) (cu:Int) (rv:Bool) (w:World) (hv:capOk id pa ob ow ri ba de ex cu=true) :
  Calls Tryz.prog 149 #[.iface 179 (.agg #[.int .i64 id,.int .i64 pa,.int .i64 ob,.int .i64 ow,.int .i64 ri,.int .i64 ba,.int .i64 de,.int .i64 ex,.int .i64 cu,.bool rv])] w fun e w' => e=.returned (.tuple #[.string (oP pa ob ow ri ba de ex cu rv),.int .i64 0])∧Below w.heap.size w w' := by
 have H:=Hd hv;have hm:=rV id pa ob ow ri ba de ex cu rv;have hw:=fun w0=>aAD id pa ob ow ri ba de ex cu rv w0 hv
 have HW:Hid (∀ w0,Calls Tryz.prog 170 #[.iface 179 (.agg #[.int .i64 id,.int .i64 pa,.int .i64 ob,.int .i64 ow,.int .i64 ri,.int .i64 ba,.int .i64 de,.int .i64 ex,.int .i64 cu,.bool rv])] w0 fun e w' => e=.returned (.string (oP pa ob ow ri ba de ex cu rv))∧Below w0.heap.size w0 w'):=Hd hw;clear hv hw;go_enter Tryz.func149,Tryz.ntmps149;go_wp2_with fail;refine (pX _ _ _ _ _ _ _ _ _ _ true _ H.out).mono ?_;rintro e w1 ⟨rfl,b1⟩;go_wp2_with fail;refine (HW.out _).mono ?_;rintro e w2 ⟨rfl,b2⟩;go_wp2_with fail;go_ret2;exact ⟨rfl,chain b1 b2⟩
def UT (id:Int) (pa:Int) (ob:Int) (ow:Int) (ri:Int) (ba:Int) (de:Int) (ex:Int) (cu:Int) (rv:Bool):ByteArray:=if capOk id pa ob ow ri ba de ex cu=true then oP pa ob ow ri ba de ex cu rv else ⟨#[]⟩
theorem WX (id:Int) (pa:Int) (ob:Int) (ow:Int) (ri:Int) (ba:Int) (de:Int) (ex:Int) (cu:Int) (rv:Bool) (w:World) :
  Calls Tryz.prog 149 #[.iface 179 (.agg #[.int .i64 id,.int .i64 pa,.int .i64 ob,.int .i64 ow,.int .i64 ri,.int .i64 ba,.int .i64 de,.int .i64 ex,.int .i64 cu,.bool rv])] w fun e w' => e=.returned (.tuple #[.string (UT id pa ob ow ri ba de ex cu rv),.int .i64 (okE (capOk id pa ob ow ri ba de ex cu) 1)])∧Below w.heap.size w w' := by
 cases h:capOk id pa ob ow ri ba de ex cu
 ·have:=rM id pa ob ow ri ba de ex cu rv w h
  simpa [UT,okE,h] using this
 ·have:=pQ id pa ob ow ri ba de ex cu rv w h
  simpa [UT,okE,h] using this
theorem CP (id:Int) (pa:Int) (ob:Int) (ow:Int) (ri:Int) (ba:Int) (de:Int) (ex:Int) (cu:Int) (rv:Bool) (w:World) :
  Calls Tryz.prog 105 #[.agg #[.int .i64 id,.int .i64 pa,.int .i64 ob,.int .i64 ow,.int .i64 ri,.int .i64 ba,.int .i64 de,.int .i64 ex,.int .i64 cu,.bool rv]] w fun e w' => e=.returned (.tuple #[.string (UT id pa ob ow ri ba de ex cu rv),.int .i64 (okE (capOk id pa ob ow ri ba de ex cu) 1)])∧Below w.heap.size w w' := by
 go_enter Tryz.func105,Tryz.ntmps105;go_wp2_with fail;refine (WX _ _ _ _ _ _ _ _ _ _ _).mono ?_;rintro e w1 ⟨rfl,b1⟩;go_wp2_with fail;go_ret2;exact ⟨rfl,(Br.alloc (Nat.le_refl _) _).trans (b1.mono (by simp))⟩
def FJ (id:Int) (pa:Int) (ob:Int) (ow:Int) (ri:Int) (ba:Int) (de:Int) (ex:Int) (cu:Int) (rv:Bool) (s:ByteArray):Bool:=capOk id pa ob ow ri ba de ex cu && decide (oP pa ob ow ri ba de ex cu rv=s)
theorem tG (id:Int) (pa:Int) (ob:Int) (ow:Int) (ri:Int) (ba:Int) (de:Int) (ex:Int) (cu:Int) (rv:Bool) (s:ByteArray) (w:World) :
  Calls Tryz.prog 129 #[.iface 179 (.agg #[.int .i64 id,.int .i64 pa,.int .i64 ob,.int .i64 ow,.int .i64 ri,.int .i64 ba,.int .i64 de,.int .i64 ex,.int .i64 cu,.bool rv]),.string s] w fun e w' => e=.returned (.bool (FJ id pa ob ow ri ba de ex cu rv s))∧Below w.heap.size w w' := by
 cases hk:capOk id pa ob ow ri ba de ex cu
 ·have F:Hid (FJ id pa ob ow ri ba de ex cu rv s=false):=Hd (by unfold FJ; rw [hk]; rfl)
  have K:=Hd (rM id pa ob ow ri ba de ex cu rv w hk);clear hk;go_enter Tryz.func129,Tryz.ntmps129;go_wp2_with fail;refine K.out.mono ?_;rintro e w1 ⟨rfl,b1⟩;go_wp2_with fail;go_ret;exact ⟨by rw [F.out]; rfl,b1⟩
 ·have K:=Hd (pQ id pa ob ow ri ba de ex cu rv w hk)
  have F:Hid (FJ id pa ob ow ri ba de ex cu rv s=((oP pa ob ow ri ba de ex cu rv).toList == s.toList)):=Hd (by
   unfold FJ; rw [hk,rY,Bool.true_and])
  clear hk;generalize oP pa ob ow ri ba de ex cu rv=x at *;go_enter Tryz.func129,Tryz.ntmps129;go_wp2_with fail;refine K.out.mono ?_;rintro e w1 ⟨rfl,b1⟩;go_wp2_with fail;go_ret;exact ⟨by rw [F.out]; rfl,b1⟩
def rC (s:ByteArray):Int:=aG s 3
def qZ (s:ByteArray):Int:=aG (aA s 3) 3
def qY (s:ByteArray):Int:=aG (aA (aA s 3) 3) 3
def qX (s:ByteArray):Int:=aG (aA (aA (aA s 3) 3) 3) 2
def qW (s:ByteArray):Int:=aG (aA (aA (aA (aA s 3) 3) 3) 2) 4
def qV (s:ByteArray):Int:=aG (aA (aA (aA (aA (aA s 3) 3) 3) 2) 4) 1
def qU (s:ByteArray):Int:=aG (aA (aA (aA (aA (aA (aA s 3) 3) 3) 2) 4) 1) 4
def qT (s:ByteArray):Int:=aG (aA (aA (aA (aA (aA (aA (aA s 3) 3) 3) 2) 4) 1) 4) 3
def qS (s:ByteArray):Int:=aG (aA (aA (aA (aA (aA (aA (aA (aA s 3) 3) 3) 2) 4) 1) 4) 3) 1
def mS (id:Int) (s:ByteArray):Bool:=FJ id (rC s) (qZ s) (qY s) (qX s) (qW s) (qV s) (qU s) (qT s) (qS s == 1) s
theorem iI:(Tryz.prog.info? 53).map (·.size)=some 10:=by kernel_rfl
theorem aAJ (id:Int) (s:ByteArray) (w:World) (hk:mS id s=false) :
  Calls Tryz.prog 82 #[.int .i64 id,.string s] w fun e w' => e=.returned (.tuple #[.agg #[.int .i64 0,.int .i64 0,.int .i64 0,.int .i64 0,.int .i64 0,.int .i64 0,.int .i64 0,.int .i64 0,.int .i64 0,.bool false],.int .i64 2])∧Below w.heap.size w w' := by
 have H:=Hd hk;unfold mS at H;clear hk;generalize h0:rC s=n0 at *;generalize h1:qZ s=n1 at *;generalize h2:qY s=n2 at *;generalize h3:qX s=n3 at *;generalize h4:qW s=n4 at *;generalize h5:qV s=n5 at *;generalize h6:qU s=n6 at *;generalize h7:qT s=n7 at *;generalize h8:qS s=n8 at *;have E0:Hid (aG s 3=n0):=Hd h0;have E1:Hid (aG (aA s 3) 3=n1):=Hd h1;have E2:Hid (aG (aA (aA s 3) 3) 3=n2):=Hd h2;have E3:Hid (aG (aA (aA (aA s 3) 3) 3) 2=n3):=Hd h3
 have E4:Hid (aG (aA (aA (aA (aA s 3) 3) 3) 2) 4=n4):=Hd h4;have E5:Hid (aG (aA (aA (aA (aA (aA s 3) 3) 3) 2) 4) 1=n5):=Hd h5;have E6:Hid (aG (aA (aA (aA (aA (aA (aA s 3) 3) 3) 2) 4) 1) 4=n6):=Hd h6;have E7:Hid (aG (aA (aA (aA (aA (aA (aA (aA s 3) 3) 3) 2) 4) 1) 4) 3=n7):=Hd h7;have E8:Hid (aG (aA (aA (aA (aA (aA (aA (aA (aA s 3) 3) 3) 2) 4) 1) 4) 3) 1=n8):=Hd h8;clear h0 h1 h2 h3 h4 h5 h6 h7 h8;go_enter Tryz.func82,Tryz.ntmps82;go_wp2_with fail
 refine (bZ _ s _ _ (heap_alloc2_new _ _ _) (by decide)).mono ?_;rw [E0.out];rintro e w1 ⟨rfl,f1,b1⟩;have F1:=Hd f1;have R1:Hid (w1.heap[w.heap.size]?=some (.cells #[.int .i64 0,.int .i64 0,.int .i64 0,.int .i64 0,.int .i64 0,.int .i64 0,.int .i64 0,.int .i64 0,.int .i64 0,.bool false] 53)):=Hd (by rw [b1.block _ (Nat.lt_succ_self _)]; exact heap_alloc2_old _ _ _);have B1:Hid (Below w.heap.size w w1):=Hd ((Br.alloc (Nat.le_refl _) _).alloc (by simp) _ |>.trans (b1.mono (by simp)));clear f1 b1;go_wp2_with fail;refine (bZ _ _ _ _ F1.out (by decide)).mono ?_
 rw [E1.out];rintro e w2 ⟨rfl,f2,b2⟩;have F2:=Hd f2;have R2:Hid (w2.heap[w.heap.size]?=some (.cells #[.int .i64 0,.int .i64 0,.int .i64 0,.int .i64 0,.int .i64 0,.int .i64 0,.int .i64 0,.int .i64 0,.int .i64 0,.bool false] 53)):=Hd (by rw [b2.block _ (Nat.lt_succ_self _)]; exact R1.out);have B2:Hid (Below w.heap.size w w2):=Hd (B1.out.trans (b2.mono (by simp)));clear f2 b2 F1 R1 B1;go_wp2_with fail;refine (bZ _ _ _ _ F2.out (by decide)).mono ?_;rw [E2.out];rintro e w3 ⟨rfl,f3,b3⟩;have F3:=Hd f3
 have R3:Hid (w3.heap[w.heap.size]?=some (.cells #[.int .i64 0,.int .i64 0,.int .i64 0,.int .i64 0,.int .i64 0,.int .i64 0,.int .i64 0,.int .i64 0,.int .i64 0,.bool false] 53)):=Hd (by rw [b3.block _ (Nat.lt_succ_self _)]; exact R2.out);have B3:Hid (Below w.heap.size w w3):=Hd (B2.out.trans (b3.mono (by simp)));clear f3 b3 F2 R2 B2;go_wp2_with fail;refine (bZ _ _ _ _ F3.out (by decide)).mono ?_;rw [E3.out];rintro e w4 ⟨rfl,f4,b4⟩;have F4:=Hd f4
 have R4:Hid (w4.heap[w.heap.size]?=some (.cells #[.int .i64 0,.int .i64 0,.int .i64 0,.int .i64 0,.int .i64 0,.int .i64 0,.int .i64 0,.int .i64 0,.int .i64 0,.bool false] 53)):=Hd (by rw [b4.block _ (Nat.lt_succ_self _)]; exact R3.out);have B4:Hid (Below w.heap.size w w4):=Hd (B3.out.trans (b4.mono (by simp)));clear f4 b4 F3 R3 B3;go_wp2_with fail;refine (bZ _ _ _ _ F4.out (by decide)).mono ?_;rw [E4.out];rintro e w5 ⟨rfl,f5,b5⟩;have F5:=Hd f5
 have R5:Hid (w5.heap[w.heap.size]?=some (.cells #[.int .i64 0,.int .i64 0,.int .i64 0,.int .i64 0,.int .i64 0,.int .i64 0,.int .i64 0,.int .i64 0,.int .i64 0,.bool false] 53)):=Hd (by rw [b5.block _ (Nat.lt_succ_self _)]; exact R4.out);have B5:Hid (Below w.heap.size w w5):=Hd (B4.out.trans (b5.mono (by simp)));clear f5 b5 F4 R4 B4;go_wp2_with fail;refine (bZ _ _ _ _ F5.out (by decide)).mono ?_;rw [E5.out];rintro e w6 ⟨rfl,f6,b6⟩;have F6:=Hd f6
 have R6:Hid (w6.heap[w.heap.size]?=some (.cells #[.int .i64 0,.int .i64 0,.int .i64 0,.int .i64 0,.int .i64 0,.int .i64 0,.int .i64 0,.int .i64 0,.int .i64 0,.bool false] 53)):=Hd (by rw [b6.block _ (Nat.lt_succ_self _)]; exact R5.out);have B6:Hid (Below w.heap.size w w6):=Hd (B5.out.trans (b6.mono (by simp)));clear f6 b6 F5 R5 B5;go_wp2_with fail;refine (bZ _ _ _ _ F6.out (by decide)).mono ?_;rw [E6.out];rintro e w7 ⟨rfl,f7,b7⟩;have F7:=Hd f7
 have R7:Hid (w7.heap[w.heap.size]?=some (.cells #[.int .i64 0,.int .i64 0,.int .i64 0,.int .i64 0,.int .i64 0,.int .i64 0,.int .i64 0,.int .i64 0,.int .i64 0,.bool false] 53)):=Hd (by rw [b7.block _ (Nat.lt_succ_self _)]; exact R6.out);have B7:Hid (Below w.heap.size w w7):=Hd (B6.out.trans (b7.mono (by simp)));clear f7 b7 F6 R6 B6;go_wp2_with fail;refine (bZ _ _ _ _ F7.out (by decide)).mono ?_;rw [E7.out];rintro e w8 ⟨rfl,f8,b8⟩;have F8:=Hd f8
 have R8:Hid (w8.heap[w.heap.size]?=some (.cells #[.int .i64 0,.int .i64 0,.int .i64 0,.int .i64 0,.int .i64 0,.int .i64 0,.int .i64 0,.int .i64 0,.int .i64 0,.bool false] 53)):=Hd (by rw [b8.block _ (Nat.lt_succ_self _)]; exact R7.out);have B8:Hid (Below w.heap.size w w8):=Hd (B7.out.trans (b8.mono (by simp)));clear f8 b8 F7 R7 B7;go_wp2_with fail;refine (bZ _ _ _ _ F8.out (by decide)).mono ?_;rw [E8.out];rintro e w9 ⟨rfl,f9,b9⟩;have F9:=Hd f9
 have R9:Hid (w9.heap[w.heap.size]?=some (.cells #[.int .i64 0,.int .i64 0,.int .i64 0,.int .i64 0,.int .i64 0,.int .i64 0,.int .i64 0,.int .i64 0,.int .i64 0,.bool false] 53)):=Hd (by rw [b9.block _ (Nat.lt_succ_self _)]; exact R8.out);have B9:Hid (Below w.heap.size w w9):=Hd (B8.out.trans (b9.mono (by simp)));clear f9 b9 F8 R8 B8;go_wp2_with fail;refine (tG _ _ _ _ _ _ _ _ _ _ _ _).mono ?_;rw [H.out];rintro e wz ⟨rfl,bz⟩;have hlt:w.heap.size < w9.heap.size:=(zl R9.out)
 have RZ:wz.heap[w.heap.size]?=some (.cells #[.int .i64 0,.int .i64 0,.int .i64 0,.int .i64 0,.int .i64 0,.int .i64 0,.int .i64 0,.int .i64 0,.int .i64 0,.bool false] 53):=by
  rw [bz.block _ (by simp; omega),Below.heap_alloc w9 _ _ hlt]; exact R9.out
 have BZ:Hid (Below w.heap.size w wz):=Hd ((B9.out.alloc (Nat.le_of_lt hlt) _).trans (bz.mono (by simp; omega)));have c0:=cl RZ 0 rfl;have c1:=cl RZ 1 rfl;have c2:=cl RZ 2 rfl;have c3:=cl RZ 3 rfl;have c4:=cl RZ 4 rfl;have c5:=cl RZ 5 rfl;have c6:=cl RZ 6 rfl;have c7:=cl RZ 7 rfl;have c8:=cl RZ 8 rfl;have c9:=cl RZ 9 rfl;have f0:=ufb RZ 0;have f1:=ufb RZ 1;have f2:=ufb RZ 2;have f3:=ufb RZ 3;have f4:=ufb RZ 4;have f5:=ufb RZ 5;have f6:=ufb RZ 6;have f7:=ufb RZ 7;have f8:=ufb RZ 8;have f9:=ufb RZ 9
 have RX:=Hd (jH w.heap.size 53 (0,0) [.int .i64 0,.int .i64 0,.int .i64 0,.int .i64 0,.int .i64 0,.int .i64 0,.int .i64 0,.int .i64 0,.int .i64 0,.bool false] wz 0 _ RZ rfl);have BX:=Hd (iK w.heap.size (Nat.le_refl _) [.int .i64 0,.int .i64 0,.int .i64 0,.int .i64 0,.int .i64 0,.int .i64 0,.int .i64 0,.int .i64 0,.int .i64 0,.bool false] wz 0 BZ.out);clear bz R9 B9 F9 RZ BZ;go_wp2_with fail
 exact bodyPost_ret (v:=.tuple #[.agg #[.int .i64 0,.int .i64 0,.int .i64 0,.int .i64 0,.int .i64 0,.int .i64 0,.int .i64 0,.int .i64 0,.int .i64 0,.bool false],.int .i64 2]) (aP Tryz.results82 _ _ w.heap.size 53 _ (0,0) _ _ rfl rfl RX.out Tryz.underlying53 rfl iI) rfl ⟨rfl,BX.out⟩
theorem xM (id:Int) (s:ByteArray) (w:World) (hk:mS id s=true) :
  Calls Tryz.prog 82 #[.int .i64 id,.string s] w fun e w' => e=.returned (.tuple #[.agg #[.int .i64 id,.int .i64 (rC s),.int .i64 (qZ s),.int .i64 (qY s),.int .i64 (qX s),.int .i64 (qW s),.int .i64 (qV s),.int .i64 (qU s),.int .i64 (qT s),.bool (qS s == 1)],.int .i64 0])∧Below w.heap.size w w' := by
 have H:=Hd hk;unfold mS at H;clear hk;generalize h0:rC s=n0 at *;generalize h1:qZ s=n1 at *;generalize h2:qY s=n2 at *;generalize h3:qX s=n3 at *;generalize h4:qW s=n4 at *;generalize h5:qV s=n5 at *;generalize h6:qU s=n6 at *;generalize h7:qT s=n7 at *;generalize h8:qS s=n8 at *;have E0:Hid (aG s 3=n0):=Hd h0;have E1:Hid (aG (aA s 3) 3=n1):=Hd h1;have E2:Hid (aG (aA (aA s 3) 3) 3=n2):=Hd h2;have E3:Hid (aG (aA (aA (aA s 3) 3) 3) 2=n3):=Hd h3
 have E4:Hid (aG (aA (aA (aA (aA s 3) 3) 3) 2) 4=n4):=Hd h4;have E5:Hid (aG (aA (aA (aA (aA (aA s 3) 3) 3) 2) 4) 1=n5):=Hd h5;have E6:Hid (aG (aA (aA (aA (aA (aA (aA s 3) 3) 3) 2) 4) 1) 4=n6):=Hd h6;have E7:Hid (aG (aA (aA (aA (aA (aA (aA (aA s 3) 3) 3) 2) 4) 1) 4) 3=n7):=Hd h7;have E8:Hid (aG (aA (aA (aA (aA (aA (aA (aA (aA s 3) 3) 3) 2) 4) 1) 4) 3) 1=n8):=Hd h8;clear h0 h1 h2 h3 h4 h5 h6 h7 h8;go_enter Tryz.func82,Tryz.ntmps82;go_wp2_with fail
 refine (bZ _ s _ _ (heap_alloc2_new _ _ _) (by decide)).mono ?_;rw [E0.out];rintro e w1 ⟨rfl,f1,b1⟩;have F1:=Hd f1;have R1:Hid (w1.heap[w.heap.size]?=some (.cells #[.int .i64 0,.int .i64 0,.int .i64 0,.int .i64 0,.int .i64 0,.int .i64 0,.int .i64 0,.int .i64 0,.int .i64 0,.bool false] 53)):=Hd (by rw [b1.block _ (Nat.lt_succ_self _)]; exact heap_alloc2_old _ _ _);have B1:Hid (Below w.heap.size w w1):=Hd ((Br.alloc (Nat.le_refl _) _).alloc (by simp) _ |>.trans (b1.mono (by simp)));clear f1 b1;go_wp2_with fail;refine (bZ _ _ _ _ F1.out (by decide)).mono ?_
 rw [E1.out];rintro e w2 ⟨rfl,f2,b2⟩;have F2:=Hd f2;have R2:Hid (w2.heap[w.heap.size]?=some (.cells #[.int .i64 0,.int .i64 0,.int .i64 0,.int .i64 0,.int .i64 0,.int .i64 0,.int .i64 0,.int .i64 0,.int .i64 0,.bool false] 53)):=Hd (by rw [b2.block _ (Nat.lt_succ_self _)]; exact R1.out);have B2:Hid (Below w.heap.size w w2):=Hd (B1.out.trans (b2.mono (by simp)));clear f2 b2 F1 R1 B1;go_wp2_with fail;refine (bZ _ _ _ _ F2.out (by decide)).mono ?_;rw [E2.out];rintro e w3 ⟨rfl,f3,b3⟩;have F3:=Hd f3
 have R3:Hid (w3.heap[w.heap.size]?=some (.cells #[.int .i64 0,.int .i64 0,.int .i64 0,.int .i64 0,.int .i64 0,.int .i64 0,.int .i64 0,.int .i64 0,.int .i64 0,.bool false] 53)):=Hd (by rw [b3.block _ (Nat.lt_succ_self _)]; exact R2.out);have B3:Hid (Below w.heap.size w w3):=Hd (B2.out.trans (b3.mono (by simp)));clear f3 b3 F2 R2 B2;go_wp2_with fail;refine (bZ _ _ _ _ F3.out (by decide)).mono ?_;rw [E3.out];rintro e w4 ⟨rfl,f4,b4⟩;have F4:=Hd f4
 have R4:Hid (w4.heap[w.heap.size]?=some (.cells #[.int .i64 0,.int .i64 0,.int .i64 0,.int .i64 0,.int .i64 0,.int .i64 0,.int .i64 0,.int .i64 0,.int .i64 0,.bool false] 53)):=Hd (by rw [b4.block _ (Nat.lt_succ_self _)]; exact R3.out);have B4:Hid (Below w.heap.size w w4):=Hd (B3.out.trans (b4.mono (by simp)));clear f4 b4 F3 R3 B3;go_wp2_with fail;refine (bZ _ _ _ _ F4.out (by decide)).mono ?_;rw [E4.out];rintro e w5 ⟨rfl,f5,b5⟩;have F5:=Hd f5
 have R5:Hid (w5.heap[w.heap.size]?=some (.cells #[.int .i64 0,.int .i64 0,.int .i64 0,.int .i64 0,.int .i64 0,.int .i64 0,.int .i64 0,.int .i64 0,.int .i64 0,.bool false] 53)):=Hd (by rw [b5.block _ (Nat.lt_succ_self _)]; exact R4.out);have B5:Hid (Below w.heap.size w w5):=Hd (B4.out.trans (b5.mono (by simp)));clear f5 b5 F4 R4 B4;go_wp2_with fail;refine (bZ _ _ _ _ F5.out (by decide)).mono ?_;rw [E5.out];rintro e w6 ⟨rfl,f6,b6⟩;have F6:=Hd f6
 have R6:Hid (w6.heap[w.heap.size]?=some (.cells #[.int .i64 0,.int .i64 0,.int .i64 0,.int .i64 0,.int .i64 0,.int .i64 0,.int .i64 0,.int .i64 0,.int .i64 0,.bool false] 53)):=Hd (by rw [b6.block _ (Nat.lt_succ_self _)]; exact R5.out);have B6:Hid (Below w.heap.size w w6):=Hd (B5.out.trans (b6.mono (by simp)));clear f6 b6 F5 R5 B5;go_wp2_with fail;refine (bZ _ _ _ _ F6.out (by decide)).mono ?_;rw [E6.out];rintro e w7 ⟨rfl,f7,b7⟩;have F7:=Hd f7
 have R7:Hid (w7.heap[w.heap.size]?=some (.cells #[.int .i64 0,.int .i64 0,.int .i64 0,.int .i64 0,.int .i64 0,.int .i64 0,.int .i64 0,.int .i64 0,.int .i64 0,.bool false] 53)):=Hd (by rw [b7.block _ (Nat.lt_succ_self _)]; exact R6.out);have B7:Hid (Below w.heap.size w w7):=Hd (B6.out.trans (b7.mono (by simp)));clear f7 b7 F6 R6 B6;go_wp2_with fail;refine (bZ _ _ _ _ F7.out (by decide)).mono ?_;rw [E7.out];rintro e w8 ⟨rfl,f8,b8⟩;have F8:=Hd f8
 have R8:Hid (w8.heap[w.heap.size]?=some (.cells #[.int .i64 0,.int .i64 0,.int .i64 0,.int .i64 0,.int .i64 0,.int .i64 0,.int .i64 0,.int .i64 0,.int .i64 0,.bool false] 53)):=Hd (by rw [b8.block _ (Nat.lt_succ_self _)]; exact R7.out);have B8:Hid (Below w.heap.size w w8):=Hd (B7.out.trans (b8.mono (by simp)));clear f8 b8 F7 R7 B7;go_wp2_with fail;refine (bZ _ _ _ _ F8.out (by decide)).mono ?_;rw [E8.out];rintro e w9 ⟨rfl,f9,b9⟩;have F9:=Hd f9
 have R9:Hid (w9.heap[w.heap.size]?=some (.cells #[.int .i64 0,.int .i64 0,.int .i64 0,.int .i64 0,.int .i64 0,.int .i64 0,.int .i64 0,.int .i64 0,.int .i64 0,.bool false] 53)):=Hd (by rw [b9.block _ (Nat.lt_succ_self _)]; exact R8.out);have B9:Hid (Below w.heap.size w w9):=Hd (B8.out.trans (b9.mono (by simp)));clear f9 b9 F8 R8 B8;go_wp2_with fail;refine (tG _ _ _ _ _ _ _ _ _ _ _ _).mono ?_;rw [H.out];rintro e wz ⟨rfl,bz⟩;have hlt:w.heap.size < w9.heap.size:=(zl R9.out)
 have X4:Hid (wz.heap[w9.heap.size]?=some (.cells #[.int .i64 id,.int .i64 n0,.int .i64 n1,.int .i64 n2,.int .i64 n3,.int .i64 n4,.int .i64 n5,.int .i64 n6,.int .i64 n7,.bool (n8 == 1)] 53)):=Hd (by rw [bz.block _ (by simp)]; exact han _ _);have d0:=cl X4.out 0 rfl;have d1:=cl X4.out 1 rfl;have d2:=cl X4.out 2 rfl;have d3:=cl X4.out 3 rfl;have d4:=cl X4.out 4 rfl;have d5:=cl X4.out 5 rfl;have d6:=cl X4.out 6 rfl;have d7:=cl X4.out 7 rfl;have d8:=cl X4.out 8 rfl;have d9:=cl X4.out 9 rfl
 have RZ:wz.heap[w.heap.size]?=some (.cells #[.int .i64 0,.int .i64 0,.int .i64 0,.int .i64 0,.int .i64 0,.int .i64 0,.int .i64 0,.int .i64 0,.int .i64 0,.bool false] 53):=by
  rw [bz.block _ (by simp; omega),Below.heap_alloc w9 _ _ hlt]; exact R9.out
 have BZ:Hid (Below w.heap.size w wz):=Hd ((B9.out.alloc (Nat.le_of_lt hlt) _).trans (bz.mono (by simp; omega)));have c0:=cl RZ 0 rfl;have c1:=cl RZ 1 rfl;have c2:=cl RZ 2 rfl;have c3:=cl RZ 3 rfl;have c4:=cl RZ 4 rfl;have c5:=cl RZ 5 rfl;have c6:=cl RZ 6 rfl;have c7:=cl RZ 7 rfl;have c8:=cl RZ 8 rfl;have c9:=cl RZ 9 rfl;have f0:=ufb RZ 0;have f1:=ufb RZ 1;have f2:=ufb RZ 2;have f3:=ufb RZ 3;have f4:=ufb RZ 4;have f5:=ufb RZ 5;have f6:=ufb RZ 6;have f7:=ufb RZ 7;have f8:=ufb RZ 8;have f9:=ufb RZ 9
 have RX:=Hd (jH w.heap.size 53 (0,0) [.int .i64 id,.int .i64 n0,.int .i64 n1,.int .i64 n2,.int .i64 n3,.int .i64 n4,.int .i64 n5,.int .i64 n6,.int .i64 n7,.bool (n8 == 1)] wz 0 _ RZ rfl);have BX:=Hd (iK w.heap.size (Nat.le_refl _) [.int .i64 id,.int .i64 n0,.int .i64 n1,.int .i64 n2,.int .i64 n3,.int .i64 n4,.int .i64 n5,.int .i64 n6,.int .i64 n7,.bool (n8 == 1)] wz 0 BZ.out);clear bz R9 B9 F9 RZ BZ X4;go_wp2_with fail
 exact bodyPost_ret (v:=.tuple #[.agg #[.int .i64 id,.int .i64 n0,.int .i64 n1,.int .i64 n2,.int .i64 n3,.int .i64 n4,.int .i64 n5,.int .i64 n6,.int .i64 n7,.bool (n8 == 1)],.int .i64 0]) (aP Tryz.results82 _ _ w.heap.size 53 _ (0,0) _ _ rfl rfl RX.out Tryz.underlying53 rfl iI) rfl ⟨rfl,BX.out⟩
theorem uL (g:Nat) (s:ByteArray) (w:World) (h:FB w g s) (hs:s.size≤9223372036854775807) :
  Calls Tryz.prog 135 #[.pointer (some ⟨g,0,none⟩)] w fun e w' => e=.returned (.string (ttS s))∧FB w' g (ttR s)∧Below g w w' := by
 have c0:=cl h 0 rfl;have H:=Hd h;clear h;go_enter Tryz.func135,Tryz.ntmps135;go_wp2_with fail;refine (nO _ _ hs).mono ?_;rintro e w1 ⟨rfl,b1⟩;have H1:=Hd (H.out.below b1);have c1:=cl H1.out 0 rfl;have f1:w1.frozen? ⟨g,0,none⟩=false:=ufb H1.out 0;have hb:=b1.mono (Nat.le_of_lt H.out.lt);clear b1;go_wp2_with fail;go_ret;exact ⟨rfl,H1.out.set _,hb.setCell (Nat.le_refl _) _⟩
theorem BL (s:ByteArray):(cF s).size≤256:=by
 unfold cF; split
 ·rw [bV]; simp; omega
 ·decide
theorem kA (s:ByteArray) (n:Int):(aA s n).size≤s.size:=by
 unfold aA; split
 ·rw [ByteArray.size_extract]; omega
 ·exact Nat.zero_le _
theorem tN (s:ByteArray):(ttS s).size≤255:=by
 have:=rF s;unfold ttS; split
 ·rw [ByteArray.size_extract]; omega
 ·exact Nat.zero_le _
def cH (id:Int) (name:ByteArray) (li:Int) (ha:Int):Bool:=inB 1 16777215 id && aY name && ((cE name).toList == name.toList) && inB 0 1000 li && inB 0 li ha
theorem yR (c0:Bool) (c1:Bool) (c2:Bool) (c3:Bool) (c4:Bool):(c0=false)∨(c0=true∧c1=false)∨(c0=true∧c1=true∧c2=false)∨(c0=true∧c1=true∧c2=true∧c3=false)∨(c0=true∧c1=true∧c2=true∧c3=true∧c4=false)∨(c0=true∧c1=true∧c2=true∧c3=true∧c4=true):=by
 cases c0
 ·exact .inl rfl
 cases c1
 ·exact .inr (.inl ⟨rfl,rfl⟩)
 cases c2
 ·exact .inr (.inr (.inl ⟨rfl,rfl,rfl⟩))
 cases c3
 ·exact .inr (.inr (.inr (.inl ⟨rfl,rfl,rfl,rfl⟩)))
 cases c4
 ·exact .inr (.inr (.inr (.inr (.inl ⟨rfl,rfl,rfl,rfl,rfl⟩))))
 exact .inr (.inr (.inr (.inr (.inr (⟨rfl,rfl,rfl,rfl,rfl⟩)))))
theorem mO (id:Int) (name:ByteArray) (li:Int) (ha:Int) (v:Bool) (w:World) (hs:name.size≤140737488351232) (hv:cH id name li ha=v) :
  Calls Tryz.prog 285 #[.agg #[.int .i64 id,.string name,.int .i64 li,.int .i64 ha]] w fun e w' => e=.returned (.bool v)∧Below w.heap.size w w' := by
 have hf:v=(inB 1 16777215 id && aY name && ((cE name).toList == name.toList) && inB 0 1000 li && inB 0 li ha):=hv.symm;clear hv
 rcases yR (inB 1 16777215 id) (aY name) ((cE name).toList == name.toList) (inB 0 1000 li) (inB 0 li ha) with h0 | ⟨h0,h1⟩ | ⟨h0,h1,h2⟩ | ⟨h0,h1,h2,h3⟩ | ⟨h0,h1,h2,h3,h4⟩ | ⟨h0,h1,h2,h3,h4⟩
 ·rw [h0] at hf
  simp only [Bool.and_true,Bool.and_false,Bool.true_and,Bool.false_and] at hf;have HF:=Hd hf;have H0:=Hd h0;clear hf h0;go_enter Tryz.func285,Tryz.ntmps285;go_wp2_with fail;refine (eJ _ _ hs).mono ?_;rintro e w1 ⟨rfl,b1⟩;have hsz:w.heap.size < (w.alloc (.cells #[.int .i64 id,.string name,.int .i64 li,.int .i64 ha] 176)).heap.size:=by simp
  have c0:w1.cell? ⟨w.heap.size,0,none⟩=some (.int .i64 id):=by rw [b1.cell hsz]; simp
  have c1:w1.cell? ⟨w.heap.size,1,none⟩=some (.string name):=by rw [b1.cell hsz]; simp
  have c2:w1.cell? ⟨w.heap.size,2,none⟩=some (.int .i64 li):=by rw [b1.cell hsz]; simp
  have c3:w1.cell? ⟨w.heap.size,3,none⟩=some (.int .i64 ha):=by rw [b1.cell hsz]; simp
  have bb:Below w.heap.size w w1:=(Br.alloc (Nat.le_refl _) _).trans (b1.mono (Nat.le_of_lt hsz));clear b1 hsz
  go_wp2_with (first | (go_at_call 286; refine (cT _ _ _ (by first | exact H0.out)).mono ?_; rintro e w9 ⟨rfl,rfl⟩))
  go_ret;exact ⟨by rw [HF.out]; rfl,bb⟩
 ·rw [h0,h1] at hf
  simp only [Bool.and_true,Bool.and_false,Bool.true_and,Bool.false_and] at hf;have HF:=Hd hf;have H0:=Hd h0;clear hf h0;go_enter Tryz.func285,Tryz.ntmps285;go_wp2_with fail;refine (eJ _ _ hs).mono ?_;rintro e w1 ⟨rfl,b1⟩;have hsz:w.heap.size < (w.alloc (.cells #[.int .i64 id,.string name,.int .i64 li,.int .i64 ha] 176)).heap.size:=by simp
  have c0:w1.cell? ⟨w.heap.size,0,none⟩=some (.int .i64 id):=by rw [b1.cell hsz]; simp
  have c1:w1.cell? ⟨w.heap.size,1,none⟩=some (.string name):=by rw [b1.cell hsz]; simp
  have c2:w1.cell? ⟨w.heap.size,2,none⟩=some (.int .i64 li):=by rw [b1.cell hsz]; simp
  have c3:w1.cell? ⟨w.heap.size,3,none⟩=some (.int .i64 ha):=by rw [b1.cell hsz]; simp
  have bb:Below w.heap.size w w1:=(Br.alloc (Nat.le_refl _) _).trans (b1.mono (Nat.le_of_lt hsz));clear b1 hsz
  go_wp2_with (first | (go_at_call 286; refine (cT _ _ _ (by first | exact H0.out)).mono ?_; rintro e w9 ⟨rfl,rfl⟩))
  go_ret;exact ⟨by rw [HF.out]; rfl,bb⟩
 ·rw [h0,h1,h2] at hf
  simp only [Bool.and_true,Bool.and_false,Bool.true_and,Bool.false_and] at hf;have HF:=Hd hf;have H0:=Hd h0;clear hf h0;go_enter Tryz.func285,Tryz.ntmps285;go_wp2_with fail;refine (eJ _ _ hs).mono ?_;rintro e w1 ⟨rfl,b1⟩;have hsz:w.heap.size < (w.alloc (.cells #[.int .i64 id,.string name,.int .i64 li,.int .i64 ha] 176)).heap.size:=by simp
  have c0:w1.cell? ⟨w.heap.size,0,none⟩=some (.int .i64 id):=by rw [b1.cell hsz]; simp
  have c1:w1.cell? ⟨w.heap.size,1,none⟩=some (.string name):=by rw [b1.cell hsz]; simp
  have c2:w1.cell? ⟨w.heap.size,2,none⟩=some (.int .i64 li):=by rw [b1.cell hsz]; simp
  have c3:w1.cell? ⟨w.heap.size,3,none⟩=some (.int .i64 ha):=by rw [b1.cell hsz]; simp
  have bb:Below w.heap.size w w1:=(Br.alloc (Nat.le_refl _) _).trans (b1.mono (Nat.le_of_lt hsz));clear b1 hsz
  go_wp2_with (first | (go_at_call 286; refine (cT _ _ _ (by first | exact H0.out)).mono ?_; rintro e w9 ⟨rfl,rfl⟩))
  go_ret;exact ⟨by rw [HF.out]; rfl,bb⟩
 ·rw [h0,h1,h2,h3] at hf
  simp only [Bool.and_true,Bool.and_false,Bool.true_and,Bool.false_and] at hf;have HF:=Hd hf;have H0:=Hd h0;have H3:=Hd h3;clear hf h0 h3;go_enter Tryz.func285,Tryz.ntmps285;go_wp2_with fail;refine (eJ _ _ hs).mono ?_;rintro e w1 ⟨rfl,b1⟩;have hsz:w.heap.size < (w.alloc (.cells #[.int .i64 id,.string name,.int .i64 li,.int .i64 ha] 176)).heap.size:=by simp
  have c0:w1.cell? ⟨w.heap.size,0,none⟩=some (.int .i64 id):=by rw [b1.cell hsz]; simp
  have c1:w1.cell? ⟨w.heap.size,1,none⟩=some (.string name):=by rw [b1.cell hsz]; simp
  have c2:w1.cell? ⟨w.heap.size,2,none⟩=some (.int .i64 li):=by rw [b1.cell hsz]; simp
  have c3:w1.cell? ⟨w.heap.size,3,none⟩=some (.int .i64 ha):=by rw [b1.cell hsz]; simp
  have bb:Below w.heap.size w w1:=(Br.alloc (Nat.le_refl _) _).trans (b1.mono (Nat.le_of_lt hsz));clear b1 hsz
  go_wp2_with (first | (go_at_call 286; refine (cT _ _ _ (by first | exact H0.out)).mono ?_; rintro e w9 ⟨rfl,rfl⟩) | (go_at_call 284; refine (cB _ _ _ _ _ (by first | exact H3.out)).mono ?_; rintro e w9 ⟨rfl,rfl⟩))
  go_ret;exact ⟨by rw [HF.out]; rfl,bb⟩
 ·rw [h0,h1,h2,h3,h4] at hf
  simp only [Bool.and_true,Bool.and_false,Bool.true_and,Bool.false_and] at hf;have HF:=Hd hf;have H0:=Hd h0;have H3:=Hd h3;have H4:=Hd h4;clear hf h0 h3 h4;go_enter Tryz.func285,Tryz.ntmps285;go_wp2_with fail;refine (eJ _ _ hs).mono ?_;rintro e w1 ⟨rfl,b1⟩;have hsz:w.heap.size < (w.alloc (.cells #[.int .i64 id,.string name,.int .i64 li,.int .i64 ha] 176)).heap.size:=by simp
  have c0:w1.cell? ⟨w.heap.size,0,none⟩=some (.int .i64 id):=by rw [b1.cell hsz]; simp
  have c1:w1.cell? ⟨w.heap.size,1,none⟩=some (.string name):=by rw [b1.cell hsz]; simp
  have c2:w1.cell? ⟨w.heap.size,2,none⟩=some (.int .i64 li):=by rw [b1.cell hsz]; simp
  have c3:w1.cell? ⟨w.heap.size,3,none⟩=some (.int .i64 ha):=by rw [b1.cell hsz]; simp
  have bb:Below w.heap.size w w1:=(Br.alloc (Nat.le_refl _) _).trans (b1.mono (Nat.le_of_lt hsz));clear b1 hsz
  go_wp2_with (first | (go_at_call 286; refine (cT _ _ _ (by first | exact H0.out)).mono ?_; rintro e w9 ⟨rfl,rfl⟩) | (go_at_call 284; refine (cB _ _ _ _ _ (by first | exact H3.out | exact H4.out)).mono ?_; rintro e w9 ⟨rfl,rfl⟩))
  go_ret;exact ⟨by rw [HF.out]; rfl,bb⟩
 ·rw [h0,h1,h2,h3,h4] at hf
  simp only [Bool.and_true,Bool.and_false,Bool.true_and,Bool.false_and] at hf;have HF:=Hd hf;have H0:=Hd h0;have H3:=Hd h3;have H4:=Hd h4;clear hf h0 h3 h4;go_enter Tryz.func285,Tryz.ntmps285;go_wp2_with fail;refine (eJ _ _ hs).mono ?_;rintro e w1 ⟨rfl,b1⟩;have hsz:w.heap.size < (w.alloc (.cells #[.int .i64 id,.string name,.int .i64 li,.int .i64 ha] 176)).heap.size:=by simp
  have c0:w1.cell? ⟨w.heap.size,0,none⟩=some (.int .i64 id):=by rw [b1.cell hsz]; simp
  have c1:w1.cell? ⟨w.heap.size,1,none⟩=some (.string name):=by rw [b1.cell hsz]; simp
  have c2:w1.cell? ⟨w.heap.size,2,none⟩=some (.int .i64 li):=by rw [b1.cell hsz]; simp
  have c3:w1.cell? ⟨w.heap.size,3,none⟩=some (.int .i64 ha):=by rw [b1.cell hsz]; simp
  have bb:Below w.heap.size w w1:=(Br.alloc (Nat.le_refl _) _).trans (b1.mono (Nat.le_of_lt hsz));clear b1 hsz
  go_wp2_with (first | (go_at_call 286; refine (cT _ _ _ (by first | exact H0.out)).mono ?_; rintro e w9 ⟨rfl,rfl⟩) | (go_at_call 284; refine (cB _ _ _ _ _ (by first | exact H3.out | exact H4.out)).mono ?_; rintro e w9 ⟨rfl,rfl⟩))
  go_ret;exact ⟨by rw [HF.out]; rfl,bb⟩
theorem oF (id:Int) (name:ByteArray) (li:Int) (ha:Int) (w:World):(method 217 176 (.agg #[.int .i64 id,.string name,.int .i64 li,.int .i64 ha]) "bailiwick/rec.right").run Tryz.prog w=.ok (285,.agg #[.int .i64 id,.string name,.int .i64 li,.int .i64 ha]) w:=by kernel_rfl
theorem sY (v:Value) (w:World):(Instr.typeAssert (.iface 176 v) 212 179 true).run Tryz.prog w=.ok (.tuple #[capZ,.bool false]) w:=by kernel_rfl
theorem pZ (v:Value) (w:World):(Instr.typeAssert (.iface 176 v) 212 176 true).run Tryz.prog w=.ok (.tuple #[v,.bool true]) w:=by kernel_rfl
theorem wT (N:Int→Int→ByteArray) (x:ByteArray) (id:Int) (name:ByteArray) (li:Int) (ha:Int) (w:World) (g0:0≤li) (l0:li≤9223372036854775807) (g1:0≤ha) (l1:ha≤9223372036854775807)
  (HN:Hid (∀ (n size:Int) (w:World),0≤n→n≤9223372036854775807→Calls Tryz.prog 190 #[.int .i64 n,.int .i64 size] w fun e w' => e=.returned (.string (N n size))∧Below w.heap.size w w')) (NS:Hid (∀ n size:Int,size≤8→(N n size).size≤8))
  (hx:Hid (cF name=x)) (sx:x.size≤256) :
  Calls Tryz.prog 170 #[.iface 176 (.agg #[.int .i64 id,.string name,.int .i64 li,.int .i64 ha])] w fun e w' => e=.returned (.string (N li 2 ++ N ha 2 ++ x))∧Below w.heap.size w w' := by
 have q1:=sY (.agg #[.int .i64 id,.string name,.int .i64 li,.int .i64 ha]);have q2:=pZ (.agg #[.int .i64 id,.string name,.int .i64 li,.int .i64 ha]);have z0:=NS.out li 2 (by omega);have z1:=NS.out ha 2 (by omega);have s1:(9223372036854775807 < (N li 2).size + (N ha 2).size)=False:=by rw [eq_iff_iff,iff_false]; omega
 have s2:(9223372036854775807 < (N li 2).size + (N ha 2).size + x.size)=False:=by rw [eq_iff_iff,iff_false]; omega
 clear z0 z1;go_enter Tryz.func170,Tryz.ntmps170;go_wp2_with fail;refine (xF _ _).mono ?_;rw [hx.out];rintro e w1 ⟨rfl,b1⟩;have hsz:w.heap.size < (w.alloc (.cells #[.int .i64 id,.string name,.int .i64 li,.int .i64 ha] 176)).heap.size:=by simp
 have hlt:w.heap.size < w1.heap.size:=Nat.lt_of_lt_of_le hsz b1.size
 have CC:Hid (∀ w', Below w1.heap.size w1 w'→w'.cell? ⟨w.heap.size,2,none⟩=some (.int .i64 li)∧w'.cell? ⟨w.heap.size,3,none⟩=some (.int .i64 ha)):=Hd fun w' h=>by
  refine ⟨?_,?_⟩
  all_goals
   rw [h.cell hlt,b1.cell hsz];simp
 have bb:Below w.heap.size w w1:=(Br.alloc (Nat.le_refl _) _).trans (b1.mono (Nat.le_of_lt hsz));clear b1 hsz hlt q1 q2;have B0:Below w1.heap.size w1 w1:=Br;go_wp2_with fail;have C0:=CC.out w1 B0
 go_region_held3 (fun w' => Below w1.heap.size w1 w'∧w'.cell? ⟨w.heap.size,2,none⟩=some (.int .i64 li)∧w'.cell? ⟨w.heap.size,3,none⟩=some (.int .i64 ha)) (first | assumption | exact ⟨B0.drew,CC.out _ B0.drew⟩ | exact IL CC.out ⟨B0.drew,CC.out _ B0.drew⟩ b9 | exact IL CC.out (by assumption) b9) ((first | (go_at_call 190; refine (HN.out _ _ _ (by first | omega | exact (qA _).1) (by first | omega | exact (qA _).2)).mono ?_; rintro e w9 ⟨rfl,b9⟩)))
 rename_i hH;go_wp2_with fail;go_ret;exact ⟨rfl,chain bb hH.1⟩
def fT (name:ByteArray) (li:Int) (ha:Int):ByteArray:=Str (aJ li 2) ++ Str (aJ ha 2) ++ cF name
theorem CZ {id:Int} {name:ByteArray} {li:Int} {ha:Int} (h:cH id name li ha=true):(0≤li∧li≤9223372036854775807)∧(0≤ha∧ha≤9223372036854775807):=by
 unfold cH at h;simp only [Bool.and_eq_true,dY] at h;omega
theorem OM (id:Int) (name:ByteArray) (li:Int) (ha:Int) (w:World) (h:cH id name li ha=true) :
  Calls Tryz.prog 170 #[.iface 176 (.agg #[.int .i64 id,.string name,.int .i64 li,.int .i64 ha])] w fun e w' => e=.returned (.string (fT name li ha))∧Below w.heap.size w w' := by
 have hi:=CZ h;obtain ⟨k0,k1⟩:=hi;exact wT (fun n size=>Str (aJ n size)) (cF name) id name li ha w k0.1 k0.2 k1.1 k1.2 (Hd fun n size w h0 h1=>rS n size w h0 h1) (Hd fun n size h=>uA n size h) (Hd rfl) (BL name)
theorem nY (id:Int) (name:ByteArray) (li:Int) (ha:Int) (w:World) (hs:name.size≤140737488351232) (hv:cH id name li ha=false) :
  Calls Tryz.prog 149 #[.iface 176 (.agg #[.int .i64 id,.string name,.int .i64 li,.int .i64 ha])] w fun e w' => e=.returned (.tuple #[.string ⟨#[]⟩,.int .i64 1])∧Below w.heap.size w w' := by
 have H:=Hd hv;have hm:=oF id name li ha;clear hv;go_enter Tryz.func149,Tryz.ntmps149;go_wp2_with fail;refine (mO _ _ _ _ false _ hs H.out).mono ?_;rintro e w1 ⟨rfl,b1⟩;go_wp2_with fail;go_ret2;exact ⟨rfl,b1⟩
theorem mN (id:Int) (name:ByteArray) (li:Int) (ha:Int) (w:World) (hs:name.size≤140737488351232) (hv:cH id name li ha=true) :
  Calls Tryz.prog 149 #[.iface 176 (.agg #[.int .i64 id,.string name,.int .i64 li,.int .i64 ha])] w fun e w' => e=.returned (.tuple #[.string (fT name li ha),.int .i64 0])∧Below w.heap.size w w' := by
 have H:=Hd hv;have hm:=oF id name li ha;have hw:=fun w0=>OM id name li ha w0 hv
 have HW:Hid (∀ w0,Calls Tryz.prog 170 #[.iface 176 (.agg #[.int .i64 id,.string name,.int .i64 li,.int .i64 ha])] w0 fun e w' => e=.returned (.string (fT name li ha))∧Below w0.heap.size w0 w'):=Hd hw;clear hv hw;go_enter Tryz.func149,Tryz.ntmps149;go_wp2_with fail;refine (mO _ _ _ _ true _ hs H.out).mono ?_;rintro e w1 ⟨rfl,b1⟩;go_wp2_with fail;refine (HW.out _).mono ?_;rintro e w2 ⟨rfl,b2⟩;go_wp2_with fail;go_ret2;exact ⟨rfl,chain b1 b2⟩
def rP (id:Int) (name:ByteArray) (li:Int) (ha:Int):ByteArray:=if cH id name li ha=true then fT name li ha else ⟨#[]⟩
theorem LT (id:Int) (name:ByteArray) (li:Int) (ha:Int) (w:World) (hs:name.size≤140737488351232) :
  Calls Tryz.prog 149 #[.iface 176 (.agg #[.int .i64 id,.string name,.int .i64 li,.int .i64 ha])] w fun e w' => e=.returned (.tuple #[.string (rP id name li ha),.int .i64 (okE (cH id name li ha) 1)])∧Below w.heap.size w w' := by
 cases h:cH id name li ha
 ·have:=nY id name li ha w hs h
  simpa [rP,okE,h] using this
 ·have:=mN id name li ha w hs h
  simpa [rP,okE,h] using this
theorem vD (id:Int) (name:ByteArray) (li:Int) (ha:Int) (w:World) (hs:name.size≤140737488351232) :
  Calls Tryz.prog 137 #[.agg #[.int .i64 id,.string name,.int .i64 li,.int .i64 ha]] w fun e w' => e=.returned (.tuple #[.string (rP id name li ha),.int .i64 (okE (cH id name li ha) 1)])∧Below w.heap.size w w' := by
 go_enter Tryz.func137,Tryz.ntmps137;go_wp2_with fail;refine (LT _ _ _ _ _ hs).mono ?_;rintro e w1 ⟨rfl,b1⟩;go_wp2_with fail;go_ret2;exact ⟨rfl,(Br.alloc (Nat.le_refl _) _).trans (b1.mono (by simp))⟩
def mX (id:Int) (name:ByteArray) (li:Int) (ha:Int) (s:ByteArray):Bool:=cH id name li ha && decide (fT name li ha=s)
theorem pK (id:Int) (name:ByteArray) (li:Int) (ha:Int) (s:ByteArray) (w:World) (hs:name.size≤140737488351232) :
  Calls Tryz.prog 129 #[.iface 176 (.agg #[.int .i64 id,.string name,.int .i64 li,.int .i64 ha]),.string s] w fun e w' => e=.returned (.bool (mX id name li ha s))∧Below w.heap.size w w' := by
 cases hk:cH id name li ha
 ·have F:Hid (mX id name li ha s=false):=Hd (by unfold mX; rw [hk]; rfl)
  have K:=Hd (nY id name li ha w hs hk);clear hk;go_enter Tryz.func129,Tryz.ntmps129;go_wp2_with fail;refine K.out.mono ?_;rintro e w1 ⟨rfl,b1⟩;go_wp2_with fail;go_ret;exact ⟨by rw [F.out]; rfl,b1⟩
 ·have K:=Hd (mN id name li ha w hs hk)
  have F:Hid (mX id name li ha s=((fT name li ha).toList == s.toList)):=Hd (by
   unfold mX; rw [hk,rY,Bool.true_and])
  clear hk;generalize fT name li ha=x at *;go_enter Tryz.func129,Tryz.ntmps129;go_wp2_with fail;refine K.out.mono ?_;rintro e w1 ⟨rfl,b1⟩;go_wp2_with fail;go_ret;exact ⟨by rw [F.out]; rfl,b1⟩
def jY (s:ByteArray):Int:=aG s 2
def jX (s:ByteArray):Int:=aG (aA s 2) 2
def jW (s:ByteArray):ByteArray:=ttS (aA (aA s 2) 2)
def iH (id:Int) (s:ByteArray):Bool:=mX id (jW s) (jY s) (jX s) s
theorem dD:(Tryz.prog.info? 42).map (·.size)=some 4:=by kernel_rfl
theorem VV (id:Int) (s:ByteArray) (w:World) (hs:s.size≤140737488360000) (hk:iH id s=false) :
  Calls Tryz.prog 67 #[.int .i64 id,.string s] w fun e w' => e=.returned (.tuple #[.agg #[.int .i64 0,.string ⟨#[]⟩,.int .i64 0,.int .i64 0],.int .i64 2])∧Below w.heap.size w w' := by
 have H:=Hd hk;unfold iH at H;clear hk;have hr2:(aA (aA s 2) 2).size≤140737488360000:=Nat.le_trans (kA _ _) (Nat.le_trans (kA _ _) hs);have hr3:(ttS (aA (aA s 2) 2)).size≤140737488351232:=Nat.le_trans (tN _) (by decide);have HR:=Hd hr2;have HT:=Hd hr3;clear hr2 hr3;generalize h0:jY s=n0 at *;generalize h1:jX s=n1 at *;generalize h2:jW s=n2 at *;have E0:Hid (aG s 2=n0):=Hd h0;have E1:Hid (aG (aA s 2) 2=n1):=Hd h1;have E2:Hid (ttS (aA (aA s 2) 2)=n2):=Hd h2;clear h0 h1 h2
 rw [E2.out] at HT;go_enter Tryz.func67,Tryz.ntmps67;go_wp2_with fail;refine (bZ _ s _ _ (heap_alloc2_new _ _ _) (by decide)).mono ?_;rw [E0.out];rintro e w1 ⟨rfl,f1,b1⟩;have F1:=Hd f1;have R1:Hid (w1.heap[w.heap.size]?=some (.cells #[.int .i64 0,.string ⟨#[]⟩,.int .i64 0,.int .i64 0] 42)):=Hd (by rw [b1.block _ (Nat.lt_succ_self _)]; exact heap_alloc2_old _ _ _);have B1:Hid (Below w.heap.size w w1):=Hd ((Br.alloc (Nat.le_refl _) _).alloc (by simp) _ |>.trans (b1.mono (by simp)));clear f1 b1;go_wp2_with fail;refine (bZ _ _ _ _ F1.out (by decide)).mono ?_;rw [E1.out]
 rintro e w2 ⟨rfl,f2,b2⟩;have F2:=Hd f2;have R2:Hid (w2.heap[w.heap.size]?=some (.cells #[.int .i64 0,.string ⟨#[]⟩,.int .i64 0,.int .i64 0] 42)):=Hd (by rw [b2.block _ (Nat.lt_succ_self _)]; exact R1.out);have B2:Hid (Below w.heap.size w w2):=Hd (B1.out.trans (b2.mono (by simp)));clear f2 b2 F1 R1 B1;go_wp2_with fail;refine (uL _ _ _ F2.out (Nat.le_trans HR.out (by decide))).mono ?_;rw [E2.out];rintro e w3 ⟨rfl,f3,b3⟩;have F3:=Hd f3
 have R3:Hid (w3.heap[w.heap.size]?=some (.cells #[.int .i64 0,.string ⟨#[]⟩,.int .i64 0,.int .i64 0] 42)):=Hd (by rw [b3.block _ (Nat.lt_succ_self _)]; exact R2.out);have B3:Hid (Below w.heap.size w w3):=Hd (B2.out.trans (b3.mono (by simp)));clear f3 b3 F2 R2 B2;go_wp2_with fail;refine (pK _ _ _ _ _ _ HT.out).mono ?_;rw [H.out];rintro e wz ⟨rfl,bz⟩;have hlt:w.heap.size < w3.heap.size:=(zl R3.out)
 have RZ:wz.heap[w.heap.size]?=some (.cells #[.int .i64 0,.string ⟨#[]⟩,.int .i64 0,.int .i64 0] 42):=by
  rw [bz.block _ (by simp; omega),Below.heap_alloc w3 _ _ hlt]; exact R3.out
 have BZ:Hid (Below w.heap.size w wz):=Hd ((B3.out.alloc (Nat.le_of_lt hlt) _).trans (bz.mono (by simp; omega)));have c0:=cl RZ 0 rfl;have c1:=cl RZ 1 rfl;have c2:=cl RZ 2 rfl;have c3:=cl RZ 3 rfl;have f0:=ufb RZ 0;have f1:=ufb RZ 1;have f2:=ufb RZ 2;have f3:=ufb RZ 3;have RX:=Hd (jH w.heap.size 42 (0,0) [.int .i64 0,.string ⟨#[]⟩,.int .i64 0,.int .i64 0] wz 0 _ RZ rfl);have BX:=Hd (iK w.heap.size (Nat.le_refl _) [.int .i64 0,.string ⟨#[]⟩,.int .i64 0,.int .i64 0] wz 0 BZ.out);clear bz R3 B3 F3 RZ BZ;go_wp2_with fail
 exact bodyPost_ret (v:=.tuple #[.agg #[.int .i64 0,.string ⟨#[]⟩,.int .i64 0,.int .i64 0],.int .i64 2]) (aP Tryz.results67 _ _ w.heap.size 42 _ (0,0) _ _ rfl rfl RX.out Tryz.underlying42 rfl dD) rfl ⟨rfl,BX.out⟩
theorem sV (id:Int) (s:ByteArray) (w:World) (hs:s.size≤140737488360000) (hk:iH id s=true) :
  Calls Tryz.prog 67 #[.int .i64 id,.string s] w fun e w' => e=.returned (.tuple #[.agg #[.int .i64 id,.string (jW s),.int .i64 (jY s),.int .i64 (jX s)],.int .i64 0])∧Below w.heap.size w w' := by
 have H:=Hd hk;unfold iH at H;clear hk;have hr2:(aA (aA s 2) 2).size≤140737488360000:=Nat.le_trans (kA _ _) (Nat.le_trans (kA _ _) hs);have hr3:(ttS (aA (aA s 2) 2)).size≤140737488351232:=Nat.le_trans (tN _) (by decide);have HR:=Hd hr2;have HT:=Hd hr3;clear hr2 hr3;generalize h0:jY s=n0 at *;generalize h1:jX s=n1 at *;generalize h2:jW s=n2 at *;have E0:Hid (aG s 2=n0):=Hd h0;have E1:Hid (aG (aA s 2) 2=n1):=Hd h1;have E2:Hid (ttS (aA (aA s 2) 2)=n2):=Hd h2;clear h0 h1 h2
 rw [E2.out] at HT;go_enter Tryz.func67,Tryz.ntmps67;go_wp2_with fail;refine (bZ _ s _ _ (heap_alloc2_new _ _ _) (by decide)).mono ?_;rw [E0.out];rintro e w1 ⟨rfl,f1,b1⟩;have F1:=Hd f1;have R1:Hid (w1.heap[w.heap.size]?=some (.cells #[.int .i64 0,.string ⟨#[]⟩,.int .i64 0,.int .i64 0] 42)):=Hd (by rw [b1.block _ (Nat.lt_succ_self _)]; exact heap_alloc2_old _ _ _);have B1:Hid (Below w.heap.size w w1):=Hd ((Br.alloc (Nat.le_refl _) _).alloc (by simp) _ |>.trans (b1.mono (by simp)));clear f1 b1;go_wp2_with fail;refine (bZ _ _ _ _ F1.out (by decide)).mono ?_;rw [E1.out]
 rintro e w2 ⟨rfl,f2,b2⟩;have F2:=Hd f2;have R2:Hid (w2.heap[w.heap.size]?=some (.cells #[.int .i64 0,.string ⟨#[]⟩,.int .i64 0,.int .i64 0] 42)):=Hd (by rw [b2.block _ (Nat.lt_succ_self _)]; exact R1.out);have B2:Hid (Below w.heap.size w w2):=Hd (B1.out.trans (b2.mono (by simp)));clear f2 b2 F1 R1 B1;go_wp2_with fail;refine (uL _ _ _ F2.out (Nat.le_trans HR.out (by decide))).mono ?_;rw [E2.out];rintro e w3 ⟨rfl,f3,b3⟩;have F3:=Hd f3
 have R3:Hid (w3.heap[w.heap.size]?=some (.cells #[.int .i64 0,.string ⟨#[]⟩,.int .i64 0,.int .i64 0] 42)):=Hd (by rw [b3.block _ (Nat.lt_succ_self _)]; exact R2.out);have B3:Hid (Below w.heap.size w w3):=Hd (B2.out.trans (b3.mono (by simp)));clear f3 b3 F2 R2 B2;go_wp2_with fail;refine (pK _ _ _ _ _ _ HT.out).mono ?_;rw [H.out];rintro e wz ⟨rfl,bz⟩;have hlt:w.heap.size < w3.heap.size:=(zl R3.out)
 have X4:Hid (wz.heap[w3.heap.size]?=some (.cells #[.int .i64 id,.string n2,.int .i64 n0,.int .i64 n1] 42)):=Hd (by rw [bz.block _ (by simp)]; exact han _ _);have d0:=cl X4.out 0 rfl;have d1:=cl X4.out 1 rfl;have d2:=cl X4.out 2 rfl;have d3:=cl X4.out 3 rfl
 have RZ:wz.heap[w.heap.size]?=some (.cells #[.int .i64 0,.string ⟨#[]⟩,.int .i64 0,.int .i64 0] 42):=by
  rw [bz.block _ (by simp; omega),Below.heap_alloc w3 _ _ hlt]; exact R3.out
 have BZ:Hid (Below w.heap.size w wz):=Hd ((B3.out.alloc (Nat.le_of_lt hlt) _).trans (bz.mono (by simp; omega)));have c0:=cl RZ 0 rfl;have c1:=cl RZ 1 rfl;have c2:=cl RZ 2 rfl;have c3:=cl RZ 3 rfl;have f0:=ufb RZ 0;have f1:=ufb RZ 1;have f2:=ufb RZ 2;have f3:=ufb RZ 3;have RX:=Hd (jH w.heap.size 42 (0,0) [.int .i64 id,.string n2,.int .i64 n0,.int .i64 n1] wz 0 _ RZ rfl);have BX:=Hd (iK w.heap.size (Nat.le_refl _) [.int .i64 id,.string n2,.int .i64 n0,.int .i64 n1] wz 0 BZ.out);clear bz R3 B3 F3 RZ BZ X4;go_wp2_with fail
 exact bodyPost_ret (v:=.tuple #[.agg #[.int .i64 id,.string n2,.int .i64 n0,.int .i64 n1],.int .i64 0]) (aP Tryz.results67 _ _ w.heap.size 42 _ (0,0) _ _ rfl rfl RX.out Tryz.underlying42 rfl dD) rfl ⟨rfl,BX.out⟩
theorem fJ (m:Nat) (size:Int):cG (m:Int) size=true ↔ 1≤size∧size≤8∧m < 256 ^ size.toNat:=by
 simp only [cG,Bool.and_eq_true,decide_eq_true_eq,beq_iff_eq];constructor
 ·rintro ⟨⟨h1,h8⟩,h⟩
  refine ⟨h1,h8,?_⟩;obtain ⟨s,rfl⟩:=Int.eq_ofNat_of_zero_le (show 0≤size by omega);rw [show (8 * (s:Int)).toNat=8 * s by omega] at h;have h' : m / 2 ^ (8 * s)=0:=by exact_mod_cast h
  have hp:0 < 2 ^ (8 * s):=Nat.pow_pos (by decide);have e:(256:Nat) ^ s=2 ^ (8 * s):=by rw [Nat.pow_mul]
  simp only [Int.toNat_natCast];rw [e];exact (Nat.div_eq_zero_iff_lt hp).1 h'
 ·rintro ⟨h1,h8,h⟩
  refine ⟨⟨h1,h8⟩,?_⟩;obtain ⟨s,rfl⟩:=Int.eq_ofNat_of_zero_le (show 0≤size by omega);rw [show (8 * (s:Int)).toNat=8 * s by omega];simp only [Int.toNat_natCast] at h;have hp:0 < 2 ^ (8 * s):=Nat.pow_pos (by decide);have e:(256:Nat) ^ s=2 ^ (8 * s):=by rw [Nat.pow_mul]
  rw [e] at h;have h' := (Nat.div_eq_zero_iff_lt hp).2 h
  exact_mod_cast h'
theorem yH {n size:Int} (h0:0≤n) (h:cG n size=true):n.toNat < 256 ^ size.toNat∧1≤size∧size≤8:=by
 obtain ⟨a,rfl⟩:=Int.eq_ofNat_of_zero_le h0;have:=(fJ a size).1 h;exact ⟨by simpa using this.2.2,this.1,this.2.1⟩
theorem VU (m s:Nat) (rest:ByteArray):(Str (M.be s m) ++ rest).data.toList.take s=M.be s m:=by
 rw [aX,aM];exact List.take_left' (M.be_length s m)
theorem wY (m s:Nat) (rest:ByteArray) (h:m < 256 ^ s):M.val ((Str (M.be s m) ++ rest).data.toList.take s)=m:=by
 rw [VU,M.val_be,Nat.mod_eq_of_lt h]
theorem tB (l:List UInt8) (rest:ByteArray):(Str l ++ rest).extract l.length (Str l ++ rest).size=rest:=by
 apply aF;rw [aH,aX,aM,List.drop_left,List.take_of_length_le];simp [bV]
theorem oK (s rest:ByteArray):(s ++ rest).extract 0 s.size=s:=by
 apply aF;rw [aH,aX,List.drop_zero,Nat.sub_zero,List.take_left' (bT s)]
theorem lM (s rest:ByteArray):(s ++ rest).extract s.size (s ++ rest).size=rest:=by
 apply aF;rw [aH,aX,List.drop_left' (bT s),List.take_of_length_le];simp
theorem nL (r:ByteArray) (n:Nat):Str (r.data.toList.take n) ++ r.extract n r.size=r:=by
 apply aF;rw [aX,aM,aH];have:(r.data.toList.drop n).take (r.size - n)=r.data.toList.drop n:=List.take_of_length_le (by simp);rw [this,List.take_append_drop]
theorem WU (r:ByteArray) (size:Nat) (h1:1≤size) (h8:size≤8):cG (M.val (r.data.toList.take size):Int) (size:Int)=true:=by
 rw [fJ];refine ⟨by omega,by omega,?_⟩;have h1:=M.val_lt (r.data.toList.take size);simp only [Int.toNat_natCast];exact Nat.lt_of_lt_of_le h1 (Nat.pow_le_pow_right (by decide) (List.length_take_le _ _))
theorem AN (r:ByteArray) (size:Nat) (h:size≤r.size):M.be size (M.val (r.data.toList.take size))=r.data.toList.take size :=
 M.be_eq _ _ (by rw [List.length_take,bT]; omega)
theorem kX (s:ByteArray) (h:s.size≤255):(cF s).size=s.size + 1:=by simp [cF,h,bV]
theorem qQ (s rest:ByteArray) (h:s.size≤255):cF s ++ rest=Str (UInt8.ofNat s.size :: (s ++ rest).data.toList):=by
 apply aF;simp [cF,h,Str]
theorem xA (s rest:ByteArray) (h:s.size≤255):ttN (cF s ++ rest)=s.size:=by
 rw [qQ s rest h];unfold ttN;rw [aM];simp only [Int.toNat_one,List.take_succ_cons,List.take_zero,M.val,List.foldl_cons,List.foldl_nil,UInt8.toNat_ofNat'];omega
theorem xB (s rest:ByteArray) (h:s.size≤255):ttB (cF s ++ rest)=s ++ rest:=by
 apply aF;unfold ttB;rw [aH,qQ s rest h,aM];simp only [Int.toNat_one,List.drop_succ_cons,List.drop_zero];rw [List.take_of_length_le];simp [bV]
theorem KE (s rest:ByteArray) (h:s.size≤255):nK (cF s ++ rest)=true:=by
 have e:(cF s ++ rest).size=s.size + 1 + rest.size:=by rw [ByteArray.size_append,kX s h]
 simp only [nK,xA s rest h,xB s rest h,ByteArray.size_append,Bool.and_eq_true,decide_eq_true_eq,e];omega
theorem GP (s rest:ByteArray) (h:s.size≤255):ttS (cF s ++ rest)=s∧ttR (cF s ++ rest)=rest∧ttE (cF s ++ rest)=0:=by
 simp only [ttS,ttR,ttE,KE s rest h,if_true,xA s rest h,xB s rest h,oK,lM,and_self]
theorem mL {n k:Int} (rest:ByteArray) (h0:0≤n) (h:cG n k=true):aG (Str (aJ n k) ++ rest) k=n∧aA (Str (aJ n k) ++ rest) k=rest:=by
 obtain ⟨m,rfl⟩:=Int.eq_ofNat_of_zero_le h0;obtain ⟨s1,s8,hm⟩:=(fJ m k).1 h;obtain ⟨s,rfl⟩:=Int.eq_ofNat_of_zero_le (show 0≤k by omega);simp only [Int.toNat_natCast] at hm;have e:aJ (m:Int) (s:Int)=M.be s m:=by unfold aJ; rw [h,if_pos rfl]; rfl
 have hz:(Str (M.be s m)).size=s:=by rw [bV,M.be_length]
 have hk:cV (Str (M.be s m) ++ rest) (s:Int)=true:=by
  unfold cV;rw [ByteArray.size_append,hz,Bool.and_eq_true,decide_eq_true_eq,decide_eq_true_eq]; omega
 rw [e];refine ⟨?_,?_⟩
 ·unfold aG; rw [hk,if_pos rfl,Int.toNat_natCast,wY m s rest hm]
 ·unfold aA; rw [hk,if_pos rfl,Int.toNat_natCast]
  have:=tB (M.be s m) rest;rw [M.be_length] at this; exact this
theorem cM {n k:Int} (h:cG n k=true):((Str (aJ n k)).size:Int)=k:=by
 unfold aJ;rw [h,if_pos rfl,bV,M.be_length];simp [cG] at h; omega
theorem vF (s:ByteArray) {k:Int} (h1:1≤k) (h8:k≤8):cG (aG s k) k=true∧0≤aG s k:=by
 obtain ⟨j,rfl⟩:=Int.eq_ofNat_of_zero_le (show 0≤k by omega);unfold aG
 split
 ·exact ⟨WU s j (by omega) (by omega),by omega⟩
 ·refine ⟨?_,Int.le_refl _⟩
  have:=(fJ 0 (j:Int)).2 ⟨by omega,by omega,Nat.pos_of_ne_zero (by simp)⟩;exact this
theorem qD (s:ByteArray) {k:Int} (h1:1≤k) (h8:k≤8) (hs:k≤s.size):Str (aJ (aG s k) k) ++ aA s k=s∧((aA s k).size:Int) + k=s.size:=by
 obtain ⟨j,rfl⟩:=Int.eq_ofNat_of_zero_le (show 0≤k by omega);have hk:cV s (j:Int)=true:=by unfold cV; rw [Bool.and_eq_true,decide_eq_true_eq,decide_eq_true_eq]; omega
 have ho:=(vF s h1 h8).1
 have e:aJ (aG s j) j=s.data.toList.take j:=by
  unfold aJ; rw [ho,if_pos rfl,Int.toNat_natCast];unfold aG; rw [hk,if_pos rfl,Int.toNat_natCast,Int.toNat_natCast];exact AN s j (by omega)
 have e2:aA s j=s.extract j s.size:=by unfold aA; rw [hk,if_pos rfl,Int.toNat_natCast]
 rw [e,e2,nL];refine ⟨rfl,?_⟩;rw [ByteArray.size_extract]; omega
theorem dG {s:ByteArray} (h:s.size=0):s=⟨#[]⟩:=by
 apply aF;have:=bT s;rw [h] at this;rw [List.length_eq_zero_iff.1 this]
theorem gB (s:ByteArray):s ++ (⟨#[]⟩:ByteArray)=s:=by
 apply aF; rw [aX]; simp
theorem GQ (s:ByteArray) (h:nK s=true):cF (ttS s) ++ ttR s=s∧(ttS s).size=ttN s∧ttN s≤255∧(ttS s).size + 1 + (ttR s).size=s.size:=by
 have hk:=h;unfold nK at h;simp only [Bool.and_eq_true,decide_eq_true_eq] at h;obtain ⟨h1,h2⟩:=h;have hb:ttB s=s.extract 1 s.size:=rfl;have hn:ttN s≤255:=by have:=rF s; omega
 have hS:ttS s=(ttB s).extract 0 (ttN s):=by unfold ttS; rw [hk,if_pos rfl]
 have hR:ttR s=(ttB s).extract (ttN s) (ttB s).size:=by unfold ttR; rw [hk,if_pos rfl]
 have hz:(ttS s).size=ttN s:=by rw [hS,ByteArray.size_extract]; omega
 have hj:ttS s ++ ttR s=ttB s:=by
  apply aF;rw [aX,hS,hR,aH,aH,List.drop_zero,Nat.sub_zero];have:((ttB s).data.toList.drop (ttN s)).take ((ttB s).size - ttN s)=(ttB s).data.toList.drop (ttN s):=List.take_of_length_le (by simp);rw [this,List.take_append_drop]
 have hbz:(ttB s).size + 1=s.size:=by rw [hb,ByteArray.size_extract]; omega
 have hsum:(ttS s).size + (ttR s).size=(ttB s).size:=by rw [← hj,ByteArray.size_append]
 refine ⟨?_,hz,hn,by omega⟩;rw [qQ _ _ (by omega),hj,hz];apply aF;rw [aM,hb,aH];obtain ⟨⟨l⟩⟩:=s
 cases l with
 | nil=>simp [ByteArray.size] at h1
 | cons c t =>
  have e:UInt8.ofNat (ttN ⟨⟨c :: t⟩⟩)=c:=by
   have:ttN ⟨⟨c :: t⟩⟩=c.toNat:=by simp [ttN,M.val]
   rw [this]; simp
  rw [e];simp [ByteArray.size]
theorem aBY (s:ByteArray) (h:nK s=false):ttS s=⟨#[]⟩∧ttR s=⟨#[]⟩:=by
 unfold ttS ttR; rw [h]; exact ⟨rfl,rfl⟩
theorem fB {n k:Int} (h0:0≤n) (k1:1≤k) (k8:k≤8) (h:n.toNat < 256 ^ k.toNat):cG n k=true:=by
 obtain ⟨m,rfl⟩:=Int.eq_ofNat_of_zero_le h0;exact (fJ m k).2 ⟨k1,k8,by simpa using h⟩
theorem tZ (b:Bool):cG (oV b) 1=true∧0≤oV b:=by cases b <;> decide
theorem uR {id pa ob ow ri ba de ex cu:Int} (h:capOk id pa ob ow ri ba de ex cu=true) :
  (cG pa 3=true∧0≤pa)∧(cG ob 3=true∧0≤ob)∧(cG ow 3=true∧0≤ow)∧(cG ri 2=true∧0≤ri)∧(cG ba 4=true∧0≤ba)∧(cG de 1=true∧0≤de)∧(cG ex 4=true∧0≤ex)∧(cG cu 3=true∧0≤cu):=by
 unfold capOk at h;simp only [Bool.and_eq_true,dY,iD] at h;obtain ⟨⟨⟨⟨⟨⟨⟨⟨⟨⟨h0,h1⟩,h2⟩,h3⟩,h4⟩,h5⟩,h6⟩,h7⟩,h8⟩,h9⟩,h10⟩:=h
 refine ⟨⟨fB (by omega) (by decide) (by decide) ?_,by omega⟩,⟨fB (by omega) (by decide) (by decide) ?_,by omega⟩,⟨fB (by omega) (by decide) (by decide) ?_,by omega⟩,⟨fB (by omega) (by decide) (by decide) ?_,by omega⟩,⟨fB (by omega) (by decide) (by decide) ?_,by omega⟩,⟨fB (by omega) (by decide) (by decide) ?_,by omega⟩,⟨fB (by omega) (by decide) (by decide) ?_,by omega⟩,⟨fB (by omega) (by decide) (by decide) ?_,by omega⟩⟩
 ·show _ < 16777216; omega
 ·show _ < 16777216; omega
 ·show _ < 16777216; omega
 ·show _ < 65536; omega
 ·show _ < 4294967296; omega
 ·show _ < 256; omega
 ·show _ < 4294967296; omega
 ·show _ < 16777216; omega
theorem AI {id pa ob ow ri ba de ex cu:Int} (rv:Bool) (rest:ByteArray) (h:capOk id pa ob ow ri ba de ex cu=true) (s:ByteArray) (hs:oP pa ob ow ri ba de ex cu rv ++ rest=s) :
  rC s=pa∧qZ s=ob∧qY s=ow∧qX s=ri∧qW s=ba∧qV s=de∧qU s=ex∧qT s=cu∧qS s=oV rv:=by
 obtain ⟨p0,p1,p2,p3,p4,p5,p6,p7⟩:=uR h;have p8:=tZ rv;have q0:=fun rest=>mL (n:=pa) (k:=3) rest p0.2 p0.1
 have q1:=fun rest=>mL (n:=ob) (k:=3) rest p1.2 p1.1
 have q2:=fun rest=>mL (n:=ow) (k:=3) rest p2.2 p2.1
 have q3:=fun rest=>mL (n:=ri) (k:=2) rest p3.2 p3.1
 have q4:=fun rest=>mL (n:=ba) (k:=4) rest p4.2 p4.1
 have q5:=fun rest=>mL (n:=de) (k:=1) rest p5.2 p5.1
 have q6:=fun rest=>mL (n:=ex) (k:=4) rest p6.2 p6.1
 have q7:=fun rest=>mL (n:=cu) (k:=3) rest p7.2 p7.1
 have q8:=fun rest=>mL (n:=oV rv) (k:=1) rest p8.2 p8.1
 have e:s=Str (aJ pa 3) ++ (Str (aJ ob 3) ++ (Str (aJ ow 3) ++ (Str (aJ ri 2) ++ (Str (aJ ba 4) ++ (Str (aJ de 1) ++ (Str (aJ ex 4) ++ (Str (aJ cu 3) ++ (Str (aJ (oV rv) 1) ++ rest)))))))):=by
  rw [← hs]; unfold oP; simp only [ByteArray.append_assoc]
 unfold rC qZ qY qX qW qV qU qT qS;rw [e,(q0 _).2,(q1 _).2,(q2 _).2,(q3 _).2,(q4 _).2,(q5 _).2,(q6 _).2,(q7 _).2];exact ⟨(q0 _).1,(q1 _).1,(q2 _).1,(q3 _).1,(q4 _).1,(q5 _).1,(q6 _).1,(q7 _).1,(q8 _).1⟩
theorem OH {id pa ob ow ri ba de ex cu:Int} (rv:Bool) (h:capOk id pa ob ow ri ba de ex cu=true):(oP pa ob ow ri ba de ex cu rv).size=24:=by
 obtain ⟨p0,p1,p2,p3,p4,p5,p6,p7⟩:=uR h;have p8:=tZ rv;have:=cM p0.1; have:=cM p1.1; have:=cM p2.1; have:=cM p3.1; have:=cM p4.1; have:=cM p5.1; have:=cM p6.1; have:=cM p7.1; have:=cM p8.1;unfold oP;simp only [ByteArray.size_append];omega
theorem wR (b:Bool):(oV b == 1)=b:=by cases b <;> decide
theorem wH {id pa ob ow ri ba de ex cu:Int} (rv:Bool) (h:capOk id pa ob ow ri ba de ex cu=true):mS id (oP pa ob ow ri ba de ex cu rv)=true:=by
 obtain ⟨e0,e1,e2,e3,e4,e5,e6,e7,e8⟩:=AI rv ⟨#[]⟩ h (oP pa ob ow ri ba de ex cu rv) (gB _);unfold mS FJ;rw [e0,e1,e2,e3,e4,e5,e6,e7,e8,wR,h];simp
theorem pS {id li ha:Int} {name:ByteArray} (h:cH id name li ha=true):(cG li 2=true∧0≤li)∧(cG ha 2=true∧0≤ha)∧name.size≤32∧aY name=true:=by
 unfold cH at h;simp only [Bool.and_eq_true,dY] at h;obtain ⟨⟨⟨⟨h0,h1⟩,h2⟩,h3⟩,h4⟩:=h;refine ⟨⟨fB (by omega) (by decide) (by decide) ?_,by omega⟩,⟨fB (by omega) (by decide) (by decide) ?_,by omega⟩,(lU name h1).1,h1⟩
 ·show _ < 65536; omega
 ·show _ < 65536; omega
theorem rN {id li ha:Int} {name:ByteArray} (rest:ByteArray) (h:cH id name li ha=true) (s:ByteArray) (hs:fT name li ha ++ rest=s):jY s=li∧jX s=ha∧jW s=name:=by
 obtain ⟨p0,p1,p2,_⟩:=pS h;have q0:=fun rest=>mL (n:=li) (k:=2) rest p0.2 p0.1
 have q1:=fun rest=>mL (n:=ha) (k:=2) rest p1.2 p1.1
 have e:s=Str (aJ li 2) ++ (Str (aJ ha 2) ++ (cF name ++ rest)):=by
  rw [← hs]; unfold fT; simp only [ByteArray.append_assoc]
 unfold jY jX jW;rw [e,(q0 _).2,(q1 _).2];exact ⟨(q0 _).1,(q1 _).1,(GP name rest (by omega)).1⟩
theorem yS {id li ha:Int} {name:ByteArray} (h:cH id name li ha=true):(fT name li ha).size=5 + name.size∧name.size≤32:=by
 obtain ⟨p0,p1,p2,_⟩:=pS h;have:=cM p0.1; have:=cM p1.1;have:=kX name (by omega);unfold fT;simp only [ByteArray.size_append];omega
theorem rO {id li ha:Int} {name:ByteArray} (h:cH id name li ha=true):iH id (fT name li ha)=true:=by
 obtain ⟨e0,e1,e2⟩:=rN ⟨#[]⟩ h (fT name li ha) (gB _);unfold iH mX;rw [e0,e1,e2,h];simp
theorem kept {w w' : World} {g:Nat} {o:Obj} (h:w.heap[g]?=some o) (b:Below w.heap.size w w'):w'.heap[g]?=some o:=by
 rw [b.block g (zl h)]; exact h
def Rd (w:World) (a:Option Addr) (L:List Value):Prop :=
 L=[]∨∃ b off,a=some ⟨b,off,none⟩∧b < w.heap.size∧∀ i u,L[i]?=some u→w.cell? ⟨b,off + i,none⟩=some u
theorem Rd.below {w w' : World} {a:Option Addr} {L:List Value} (h:Rd w a L) (hb:Below w.heap.size w w'):Rd w' a L:=by
 rcases h with h | ⟨b,off,h1,h2,h3⟩
 ·exact .inl h
 ·exact .inr ⟨b,off,h1,Nat.lt_of_lt_of_le h2 hb.size,fun i u hu=>(hb.cell (p:=⟨b,off + i,none⟩) h2).trans (h3 i u hu)⟩
theorem Rd.at {w:World} {a:Option Addr} {L:List Value} (h:Rd w a L) (i:Nat) (hi:i < L.length):∃ b off,a=some ⟨b,off,none⟩∧b < w.heap.size∧w.cell? ⟨b,off + i,none⟩=some L[i]:=by
 rcases h with rfl | ⟨b,off,h1,h2,h3⟩
 ·exact absurd hi (Nat.not_lt_zero _)
 ·exact ⟨b,off,h1,h2,h3 i _ (List.getElem?_eq_getElem hi)⟩
theorem Rd.sliced {w:World} {a:Option Addr} {L:List Value} (h:Rd w a L) (lo hi cap:Nat) (h1:lo≤hi) (h2:hi≤L.length) (h3:L.length≤cap) :
  ∃ a', sliced a lo hi cap 1=.slice a' (hi - lo) (cap - lo)∧Rd w a' ((L.drop lo).take (hi - lo)):=by
 refine ⟨_,rfl,?_⟩
 rcases h with rfl | ⟨b,off,rfl,g2,g3⟩
 ·left; simp
 ·by_cases hc:cap=lo
  ·left
   have:hi - lo=0:=by omega
   rw [this]; simp
  ·right
   refine ⟨b,off + lo,by simp only [hc,if_false,Option.map_some,Nat.mul_one]; rw [fD],g2,fun i u hu=>?_⟩;rw [List.getElem?_take] at hu
   split at hu
   case isFalse=>cases hu
   rw [List.getElem?_drop] at hu;have:=g3 (lo + i) u hu;rw [Nat.add_assoc]; exact this
theorem Rd.own {w:World} {base:Nat} {e:TypeId} {v:Value} {n:Nat} {xs:List Value} (h:w.ownsRow base e 1 v n xs):∃ a cap,v=.slice a xs.length cap∧Rd w a xs∧xs.length≤cap∧cap≤maxLen:=by
 have hl:xs.length=n:=by have:=h.1; omega
 rcases h.2 with ⟨rfl,h0⟩ | ⟨g,cap,cur,hv,hb,hh,hn,hc,hs,ht⟩
 ·have:xs=[]:=List.eq_nil_of_length_eq_zero (by omega)
  subst this;exact ⟨none,0,rfl,.inl rfl,Nat.le_refl _,Nat.zero_le _⟩
 ·refine ⟨some ⟨g,0,none⟩,cap,by rw [hl]; exact hv,.inr ⟨g,0,rfl,(zl hh),fun i u hu=>?_⟩,by omega,hc⟩
  have:=h.cells (g:=g) (by rw [hv]; rfl) i u hu;rwa [fD] at this
theorem pF {P:Program} (w:World) (base:Nat) (t ty e:TypeId) (i:TypeInfo) (z:Value) (bytes:Nat) (ht:P.underlying t=some (.slice e)) (hi:P.info? e=some i) (hz:i.zero=some z)
  (hsize:i.size=1) (hby:i.bytes=bytes) (hzs:z.cells.size=1)
  (v:Value) (n:Nat) (xs:List Value) (hown:w.ownsRow base e 1 v n xs) (a:Option Addr) (L:List Value) (c:Nat) (hr:Rd w a L) (h1:∀ u∈L,u.oneCell'=true)
  (h63:n + L.length≤maxLen) (hbytes:(n + L.length) * bytes≤140737488355328) (hbase:base≤w.heap.size) :
  ∃ v' w', (Builtin.append_ #[t,t] ty #[v,.slice a L.length c]).run P w=.ok v' w'∧w'.ownsRow base e 1 v' (n + L.length) (xs ++ L)∧w.grownBy w' v.ownBlock:=by
 by_cases hL:L=[]
 ·subst hL
  rw [List.append_nil];refine ⟨v,w,?_,hown,⟨rfl,rfl,rfl,Nat.le_refl _,fun _ _ _=>rfl⟩⟩
  rcases hown.2 with ⟨rfl,rfl⟩ | ⟨g,cap,cur,rfl,hbg,hg,hnc,hcm,hcs,htake⟩
  ·cases a <;> simp [Builtin.append_,run_underlying ht,sizeOf,typeInfo,hi,Builtin.lenOf,Builtin.firstCells,loadCells,loadCellsFrom]
  ·cases a <;> simp [Builtin.append_,run_underlying ht,sizeOf,typeInfo,hi,Builtin.lenOf,Builtin.firstCells,loadCells,loadCellsFrom,hnc,storeCells]
 ·rcases hr with hr | ⟨b,off,rfl,g2,g3⟩
  ·exact absurd hr hL
  ·obtain ⟨v', w', q1,q2,q3,_⟩:=run_append_own (P:=P) w base t ty e i z 1 bytes ht hi hz hsize hby hzs (by omega) v n xs hown ⟨b,off,none⟩ L.length c L (by omega)
    (fun j u hu=>by rw [fD]; exact g3 j u hu) h1 h63 hbytes hbase
   exact ⟨v', w', q1,q2,q3⟩
structure Nod where
 leaf:Bool
 K:List Int
 V:List ByteArray
 C:List Int
def bH (n:Nod):Bool:=if n.leaf then decide (n.V.length=n.K.length) && decide (n.C.length=0) else decide (n.C.length=n.K.length + 1) && decide (n.V.length=0)
def bN:List ByteArray→Nat
 | []=>0
 | v :: l=>v.size + bN l
theorem fC (l m:List ByteArray):bN (l ++ m)=bN l + bN m:=by
 induction l with
 | nil=>simp [bN]
 | cons a l ih=>simp [bN,ih]; omega
theorem oR (l:List ByteArray) (i:Nat):bN (l.take i) + bN (l.drop i)=bN l:=by
 rw [← fC,List.take_append_drop]
theorem mJ (l:List ByteArray) (m:Nat) (h:∀ v∈l,v.size≤m):bN l≤l.length * m:=by
 induction l with
 | nil=>simp [bN]
 | cons a l ih =>
  have h1:=h a (by simp);have h2:=ih fun v hv=>h v (by simp [hv])
  simp only [bN,List.length_cons,Nat.add_mul];omega
def aL (n:Nod):Nat:=if n.leaf then 1 + 9 * n.K.length + bN n.V else 1 + 8 * n.K.length + 2 * n.C.length
def dS (leaf:Bool) (key:Int):List Int→Nat→Nat × Bool
 | [],i=>(i,!leaf)
 | k :: r,i=>if leaf=true∧k=key then (i,true) else if key < k then (i,!leaf) else dS leaf key r (i + 1)
theorem zU (leaf:Bool) (key:Int) (K:List Int) (i:Nat) (h:i < K.length) :
  dS leaf key (K.drop i) i=if leaf=true∧K[i]=key then (i,true) else if key < K[i] then (i,!leaf) else dS leaf key (K.drop (i + 1)) (i + 1):=by
 rw [List.drop_eq_getElem_cons h]
 rfl
theorem EI (leaf:Bool) (key:Int) (K:List Int) (i:Nat) (h:K.length=i):dS leaf key (K.drop i) i=(i,!leaf):=by
 rw [List.drop_eq_nil_of_le (by omega)]
 rfl
theorem uO (leaf:Bool) (key:Int):∀ (K:List Int) (i:Nat),i≤(dS leaf key K i).1∧(dS leaf key K i).1≤i + K.length∧((dS leaf key K i).2=true→leaf=true→(dS leaf key K i).1 < i + K.length):=by
 intro K
 induction K with
 | nil=>intro i; simp [dS]
 | cons k r ih =>
  intro i;unfold dS
  split
  ·simp
  ·split
   ·refine ⟨Nat.le_refl _,by simp,?_⟩
    intro h1 h2;rw [h2] at h1;exact absurd h1 (by simp)
   ·have:=ih (i + 1)
    simp only [List.length_cons];refine ⟨by omega,by omega,fun h1 h2=>by have:=this.2.2 h1 h2; omega⟩
def bI (n:Nod) (key:Int):Nat × Bool:=if bH n then dS n.leaf key n.K 0 else (0,false)
theorem sL (n:Nod) (key:Int):(bI n key).1≤n.K.length:=by
 unfold bI
 split
 ·have:=(uO n.leaf key n.K 0).2.1; omega
 ·exact Nat.zero_le _
theorem sK (n:Nod) (key:Int) (h:(bI n key).2=true) (hl:n.leaf=true):(bI n key).1 < n.K.length:=by
 unfold bI at h ⊢
 split
 ·rename_i hw
  rw [if_pos hw] at h;have:=(uO n.leaf key n.K 0).2.2 h hl; omega
 ·rename_i hw
  rw [if_neg hw] at h
  cases h
def eO (n:Nod) (key:Int) (v:ByteArray):Nod :=
 if (n.leaf && bH n)=true then
  {leaf:=true,K:=n.K.take (bI n key).1 ++ [key] ++ n.K.drop ((bI n key).1 + (if (bI n key).2 then 1 else 0)),V:=n.V.take (bI n key).1 ++ [v] ++ n.V.drop ((bI n key).1 + (if (bI n key).2 then 1 else 0)),C:=[] }
 else n
def mP (n:Nod) (i:Int) (key:Int) (kid:Int):Nod :=
 if (!n.leaf && bH n && decide (0≤i) && decide (i≤n.K.length))=true then
  {leaf:=false,K:=n.K.take i.toNat ++ [key] ++ n.K.drop i.toNat,V:=[],C:=n.C.take (i.toNat + 1) ++ [kid] ++ n.C.drop (i.toNat + 1) }
 else n
theorem yG (n:Nod) (key:Int) (v:ByteArray) (h:n.leaf=true):(eO n key v).leaf=true:=by unfold eO; split <;> first | rfl | exact h
theorem bJ {n:Nod} (h:n.leaf=true):bH n=true ↔ n.V.length=n.K.length∧n.C.length=0:=by unfold bH; rw [h]; simp
theorem aW {n:Nod} (h:n.leaf=false):bH n=true ↔ n.C.length=n.K.length + 1∧n.V.length=0:=by unfold bH; rw [h]; simp
theorem aB5 (n:Nod) (key:Int) (v:ByteArray) (hl:n.leaf=true) (hw:bH n=true):(eO n key v).K.length=n.K.length + (if (bI n key).2 then 0 else 1):=by
 have h2:=sL n key;have h3:=sK n key;unfold eO;rw [if_pos (by rw [hl,hw]; rfl)];simp only [List.length_append,List.length_take,List.length_drop,List.length_cons,List.length_nil]
 split
 ·rename_i h
  have:=h3 h hl;omega
 ·omega
theorem QY (n:Nod) (key:Int) (v:ByteArray) (hl:n.leaf=true) (hw:bH n=true) :
  (aL (eO n key v):Int) - (aL n:Int)=if (bI n key).2 then (v.size:Int) - ((n.V.getD (bI n key).1 ByteArray.empty).size:Int) else 9 + (v.size:Int):=by
 have h1:=(bJ hl).1 hw;have h2:=sL n key;have h3:=sK n key;have hk:=aB5 n key v hl hw;have hs:=oR n.V (bI n key).1;unfold aL;rw [yG n key v hl,hl,hk];simp only [if_true]
 have hv:(eO n key v).V=n.V.take (bI n key).1 ++ [v] ++ n.V.drop ((bI n key).1 + (if (bI n key).2 then 1 else 0)):=by
  unfold eO;rw [if_pos (by rw [hl,hw]; rfl)]
 rw [hv,fC,fC]
 split
 ·rename_i h
  have hlt:=h3 h hl;have hd:n.V.drop (bI n key).1=n.V[(bI n key).1]'(by omega) :: n.V.drop ((bI n key).1 + 1):=List.drop_eq_getElem_cons (by omega);rw [hd] at hs;rw [List.getD_eq_getElem?_getD,List.getElem?_eq_getElem (by omega)];simp only [bN,Option.getD_some] at hs ⊢;omega
 ·simp only [bN,Nat.add_zero]
  omega
def bS (k:Int):Value:=.int .u64 k
def fP (k:Int):Value:=.int .i64 k
def aQ (n:Nod) (ak av ac:Option Addr) (ck cv cc:Nat):Value:=.agg #[.bool n.leaf,.slice ak n.K.length ck,.slice av n.V.length cv,.slice ac n.C.length cc]
structure dP (n:Nod):Prop where
 k1:n.K.length≤1000
 v1:n.V.length≤1000
 c1:n.C.length≤1000
 kb:∀ x∈n.K,0≤x∧x≤18446744073709551615
 vb:∀ x∈n.V,x.size≤140737488351232
 cb:∀ x∈n.C,-9223372036854775808≤x∧x≤9223372036854775807
structure NodR (w:World) (n:Nod) (ak av ac:Option Addr) (ck cv cc:Nat):Prop where
 k:Rd w ak (n.K.map bS)
 v:Rd w av (n.V.map Value.string)
 c:Rd w ac (n.C.map fP)
 k2:n.K.length≤ck
 k3:ck≤maxLen
 v2:n.V.length≤cv
 v3:cv≤maxLen
 c2:n.C.length≤cc
 c3:cc≤maxLen
 ok:dP n
theorem NodR.below {w w' : World} {n:Nod} {ak av ac:Option Addr} {ck cv cc:Nat} (h:NodR w n ak av ac ck cv cc) (hb:Below w.heap.size w w'):NodR w' n ak av ac ck cv cc :=
 ⟨h.k.below hb,h.v.below hb,h.c.below hb,h.k2,h.k3,h.v2,h.v3,h.c2,h.c3,h.ok⟩
theorem OO (lf:Bool) (lk lv lc ck cv cc:Nat) (ak av ac:Option Addr) (w:World) (v:Bool) (hv:Hid ((if lf then decide (lv=lk) && decide (lc=0) else decide (lc=lk + 1) && decide (lv=0))=v)) (h1:lk≤1000) (h2:lv≤1000) (h3:lc≤1000) :
  Calls Tryz.prog 179 #[.agg #[.bool lf,.slice ak lk ck,.slice av lv cv,.slice ac lc cc]] w fun e w' => e=.returned (.bool v)∧Below w.heap.size w w' := by
 cases lf
 ·by_cases a1:(lc:Int)=(lk:Int) + 1
  ·by_cases a2:(lv:Int)=0
   ·have hv' : v=true:=by rw [← hv.out]; simp; omega
    subst hv';clear hv;go_enter Tryz.func179,Tryz.ntmps179;go_wp2_with fail;go_ret;exact ⟨aK (by first | rfl | simpa using a2),Br.alloc (Nat.le_refl _) _⟩
   ·have hv' : v=false:=by rw [← hv.out]; simp; omega
    subst hv';clear hv;go_enter Tryz.func179,Tryz.ntmps179;go_wp2_with fail;go_ret;exact ⟨aK (by first | rfl | simpa using a2),Br.alloc (Nat.le_refl _) _⟩
  ·have hv' : v=false:=by rw [← hv.out]; simp; omega
   subst hv';clear hv;go_enter Tryz.func179,Tryz.ntmps179;go_wp2_with fail;go_ret;exact ⟨rfl,Br.alloc (Nat.le_refl _) _⟩
 ·by_cases a1:(lv:Int)=(lk:Int)
  ·by_cases a2:(lc:Int)=0
   ·have hv' : v=true:=by rw [← hv.out]; simp; omega
    subst hv';clear hv;go_enter Tryz.func179,Tryz.ntmps179;go_wp2_with fail;go_ret;exact ⟨aK (by first | rfl | simpa using a2),Br.alloc (Nat.le_refl _) _⟩
   ·have hv' : v=false:=by rw [← hv.out]; simp; omega
    subst hv';clear hv;go_enter Tryz.func179,Tryz.ntmps179;go_wp2_with fail;go_ret;exact ⟨aK (by first | rfl | simpa using a2),Br.alloc (Nat.le_refl _) _⟩
  ·have hv' : v=false:=by rw [← hv.out]; simp; omega
   subst hv';clear hv;go_enter Tryz.func179,Tryz.ntmps179;go_wp2_with fail;go_ret;exact ⟨rfl,Br.alloc (Nat.le_refl _) _⟩
theorem iC (n:Nod) (ak av ac:Option Addr) (ck cv cc:Nat) (w:World) (ho:dP n) (v:Bool) (hv:bH n=v) :
  Calls Tryz.prog 179 #[aQ n ak av ac ck cv cc] w fun e w' => e=.returned (.bool v)∧Below w.heap.size w w' :=
 OO n.leaf n.K.length n.V.length n.C.length ck cv cc ak av ac w v (Hd hv) ho.k1 ho.v1 ho.c1
theorem AL (V:List ByteArray) (i:Nat) (h:i < V.length):bN (V.take (i + 1))=bN (V.take i) + V[i].size:=by
 rw [List.take_succ_eq_append_getElem h,fC];simp [bN]
theorem nS (n:Nod) (ak av ac:Option Addr) (ck cv cc:Nat) (w:World) (h:NodR w n ak av ac ck cv cc) (z:Nat) (hz:Hid (aL n=z)) (hw:bH n=true) :
  Calls Tryz.prog 182 #[aQ n ak av ac ck cv cc] w fun e w' => e=.returned (.int .i64 (z:Int))∧Below w.heap.size w w' := by
 obtain ⟨lf,K,V,C⟩:=n;have h1:=h.ok.k1;have h2:=h.ok.v1;have h3:=h.ok.c1;have HV:=Hd h.v;have vb:=h.ok.vb
 have tot:∀ i,bN (V.take i)≤1000 * 140737488351232:=fun i=>by
  have a:=mJ (V.take i) 140737488351232 (fun v hv=>vb v (List.mem_of_mem_take hv));have b:(V.take i).length≤1000:=by have:V.length≤1000:=h2; rw [List.length_take]; omega
  exact Nat.le_trans a (Nat.mul_le_mul_right _ b)
 have TOT:=Hd tot;have VB:=Hd vb;have hk:K.length≤1000:=h1;have hv:V.length≤1000:=h2;have hc:C.length≤1000:=h3;clear h h1 h2 h3 tot vb;unfold aQ
 cases lf
 ·have e:(z:Int)=1 + (K.length:Int) * 8 + (C.length:Int) * 2:=by rw [← hz.out]; unfold aL; simp; omega
  rw [e];clear e hz hw;generalize hlk:K.length=lk at *;generalize hlv:V.length=lv at *;generalize hlc:C.length=lc at *;clear HV TOT VB hlk hlv hlc;go_enter Tryz.func182,Tryz.ntmps182;go_wp2_with fail;go_ret;exact ⟨rfl,Br.alloc (Nat.le_refl _) _⟩
 ·have hvk:V.length=K.length:=((bJ rfl).1 hw).1
  have e:(z:Int)=1 + (K.length:Int) * 8 + (K.length:Int) * 1 + (bN (V.take V.length):Int):=by rw [← hz.out]; unfold aL; simp; omega
  rw [e];clear e hz hw;have e0:Hid (bN (V.take 0)=0):=Hd rfl;generalize hlk:K.length=lk at *;generalize hlv:V.length=lv at *;generalize hlc:C.length=lc at *;go_enter Tryz.func182,Tryz.ntmps182;go_wp2_with fail
  go_loopw [3,5,29] (fun s v i wr=>∃ j:Nat,j≤lk∧i=.int .i64 (j:Int)∧s=.int .i64 (1 + (lk:Int) * 8 + (lk:Int) + (bN (V.take j):Int))∧wr=w.alloc (.cells #[.bool true,.slice ak lk ck,.slice av lk cv,.slice ac lc cc] 206)) (fun _ _ i _=>lk + 1 - (intOf i).toNat)
  case atStart=>exact ⟨0,Nat.zero_le _,rfl,by rw [e0.out]; simp,rfl⟩
  case round =>
   obtain ⟨j,hj,rfl,rfl,rfl⟩:=hrel
   by_cases hlt:j < lk
   ·have hji:(j:Int) < (lk:Int):=by omega
    have hjV:j < V.length:=by omega
    obtain ⟨b,off,rfl,hb,hcell⟩:=HV.out.at j (by simp; omega)
    have hcell' : (w.alloc (.cells #[.bool true,.slice ak lk ck,.slice (some ⟨b,off,none⟩) lk cv,.slice ac lc cc] 206)).cell? ⟨b,off + j,none⟩=some (.string V[j]):=by
     rw [World.cell?_alloc_lt _ _ _ hb,hcell]; simp
    have BT:=Hd (AL V j hjV);have t1:=TOT.out j;have t2:=VB.out V[j] (List.getElem_mem hjV);generalize hvj:V[j]=x at *;generalize bN (V.take j)=y at *;clear hcell hb hvj;go_wp2_with fail;go_roundw
    case rel=>exact ⟨j + 1,by omega,by go_num,by rw [BT.out]; go_num,by trivial⟩
    case measure=>simp [intOf]; omega
   ·obtain rfl:j=lk:=by omega
    have hji:¬ (j:Int) < (j:Int):=by omega
    go_wp2_with fail;go_ret;exact ⟨GZ (by subst hvk; omega),Br.alloc (Nat.le_refl _) _⟩
theorem iO {w w1:World} {o:Obj} (b:Below (w.alloc o).heap.size (w.alloc o) w1):w1.heap[w.heap.size]?=some o:=by
 have h1:w.heap.size < (w.alloc o).heap.size:=by simp
 rw [b.block _ h1];exact han w o
theorem eU {w w1:World} {o:Obj} (b:Below (w.alloc o).heap.size (w.alloc o) w1):Below w.heap.size w w1 :=
 (Br.alloc (Nat.le_refl _) _).trans (b.mono (by simp))
theorem vQ (n:Nod) (ak av ac:Option Addr) (ck cv cc:Nat) (w:World) (h:NodR w n ak av ac ck cv cc) (key:Int) (p:Nat) (ok:Bool) (hp:Hid (bI n key=(p,ok))) :
  Calls Tryz.prog 177 #[aQ n ak av ac ck cv cc,.int .u64 key] w fun e w' => e=.returned (.tuple #[.int .i64 (p:Int),.bool ok])∧Below w.heap.size w w' := by
 obtain ⟨v,hv⟩:∃ v,bH n=v:=⟨_,rfl⟩
 have WH:=Hd (fun w=>iC n ak av ac ck cv cc w h.ok v hv);have HK:=Hd h.k;have hk:=h.ok.k1
 cases v
 ·have hp' := hp.out
  unfold bI at hp';rw [if_neg (by rw [hv]; simp)] at hp';obtain ⟨rfl,rfl⟩:=Prod.mk.inj hp';clear hp hp' h hv HK;unfold aQ at *;go_enter Tryz.func177,Tryz.ntmps177;go_wp2_with fail
  go_step3
  go_wp2_with fail;refine (WH.out _).mono ?_;rintro e w1 ⟨rfl,b1⟩;have B:=eU b1;go_wp2_with fail;try rw [Exit.noGoto_ret]
  go_ret2;exact ⟨rfl,B⟩
 ·have hp' := hp.out
  unfold bI at hp';rw [if_pos hv] at hp';obtain ⟨lf,K,V,C⟩:=n
  dsimp only at hp' HK hk
  have F0:Hid (dS lf key (K.drop 0) 0=(p,ok)):=Hd hp';have FS:=Hd (fun j hj=>zU lf key K j hj);clear hp hp' h hv;unfold aQ at *
  dsimp only at WH ⊢
  obtain ⟨lk,hlk⟩:∃ lk,K.length=lk:=⟨_,rfl⟩
  rw [hlk] at WH hk ⊢;generalize V.length=lv at *;generalize C.length=lc at *;go_enter Tryz.func177,Tryz.ntmps177;go_wp2_with fail
  go_step3
  go_wp2_with fail;refine (WH.out _).mono ?_;rintro e w1 ⟨rfl,b1⟩;have B:=Hd (eU b1);have k1:=iO b1;have k0:=cl k1 0 rfl;have k2:=cl k1 1 rfl;clear k1 b1 WH;have HR:=Hd (HK.out.below B.out);clear HK;go_wp2_with fail
  go_step3
  go_wp2_with fail
  go_loopw [4,5,6,18] (fun s t q i wr=>∃ j:Nat,j≤lk∧i=.int .i64 (j:Int)∧q=.int .i64 (lk:Int)∧s=.int .i64 0∧t=.bool false∧wr=w1∧dS lf key (K.drop j) j=(p,ok)) (fun _ _ _ i _=>lk + 1 - (intOf i).toNat)
  case atStart=>exact ⟨0,Nat.zero_le _,rfl,rfl,rfl,rfl,rfl,F0.out⟩
  case round =>
   obtain ⟨j,hj,rfl,rfl,rfl,rfl,rfl,hfa⟩:=hrel
   by_cases hlt:j < lk
   ·have hji:(j:Int) < (lk:Int):=by omega
    have hjK:j < K.length:=by omega
    rw [FS.out j hjK] at hfa;obtain ⟨b,off,rfl,hb,hcell⟩:=HR.out.at j (by simpa using hjK);have hcell' : wr.cell? ⟨b,off + j,none⟩=some (.int .u64 K[j]):=by rw [hcell]; simp [bS]
    clear hcell hb;generalize hx:K[j]=x at *;clear hx
    by_cases h1:x=key
    ·subst h1
     cases lf
     ·rw [if_neg (by simp),if_neg (by omega)] at hfa
      have HFA:=Hd hfa;clear hfa;have q1:¬ x < x:=by omega
      go_wp2_with fail;go_roundw
      case rel=>exact ⟨j + 1,by omega,by go_num,rfl,rfl,rfl,by trivial,HFA.out⟩
      case measure=>simp [intOf]; omega
     ·rw [if_pos ⟨rfl,rfl⟩] at hfa
      obtain ⟨rfl,rfl⟩:=Prod.mk.inj hfa;clear hfa F0;go_wp2_with fail;try rw [Exit.noGoto_ret]
      go_ret2;exact ⟨rfl,B.out⟩
    ·have q1:(x == key)=false:=by simpa using h1
     rw [if_neg (fun hc=>h1 hc.2)] at hfa
     by_cases h2:key < x
     ·rw [if_pos h2] at hfa
      obtain ⟨rfl,rfl⟩:=Prod.mk.inj hfa;clear hfa F0
      cases lf
      ·go_wp2_with fail
       go_quiet (fail)
       go_wp2_with fail;try rw [Exit.noGoto_ret]
       go_ret2;exact ⟨rfl,bG B.out _⟩
      ·go_wp2_with fail
       go_quiet (fail)
       go_wp2_with fail;try rw [Exit.noGoto_ret]
       go_ret2;exact ⟨rfl,bG B.out _⟩
     ·rw [if_neg h2] at hfa
      have HFA:=Hd hfa;clear hfa
      cases lf
      all_goals
       go_wp2_with fail;go_roundw
       case rel=>exact ⟨j + 1,by omega,by go_num,rfl,rfl,rfl,by trivial,HFA.out⟩
       case measure=>simp [intOf]; omega
   ·obtain rfl:j=lk:=by omega
    have hji:¬ (j:Int) < (j:Int):=by omega
    rw [EI lf key K j hlk] at hfa;obtain ⟨rfl,rfl⟩:=Prod.mk.inj hfa;clear hfa F0;go_wp2_with fail
    go_quiet (fail)
    go_wp2_with fail;try rw [Exit.noGoto_ret]
    go_ret2;exact ⟨rfl,bG B.out _⟩
end Go.Proofs.YtblbiihpfjjhhaaGreatDoor
