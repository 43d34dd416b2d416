/-
 RecSlot, RecFld, Sl, Sm, St, Vi, Sp, Sk.
-/
import Derived.Test.YtblbiihpfjjhhaaGreatDoorS03
import Derived.Test.YtblbiihpfjjhhaaGreatDoorS17
import Derived.Outline
import Derived.Lib.SmallJoins
namespace Go.Proofs.YtblbiihpfjjhhaaGreatDoor
open Go.RowKit
set_option maxRecDepth 20000
set_option maxHeartbeats 12800000
set_option linter.unusedVariables false
set_option linter.unusedSimpArgs false
def inB (lo hi n:Int):Bool:=decide (lo≤n) && decide (n≤hi)
theorem iV {lo hi n:Int}:inB lo hi n=true ↔ lo≤n∧n≤hi:=by simp [inB]
theorem CI (n lo hi:Int) (v:Bool) (w:World) (hv:inB lo hi n=v) :
  Calls Tryz.prog 284 #[.int .i64 n,.int .i64 lo,.int .i64 hi] w fun e w' => e=.returned (.bool v)∧w=w' := by
 have H:=Hd hv;clear hv
 by_cases h:lo≤n
 all_goals
  go_enter Tryz.func284,Tryz.ntmps284
  go_wp2
  go_ret;refine ⟨?_,rfl⟩;rw [← H.out];exact cS (by rw [Bool.eq_iff_iff]; simp [inB]; omega)
theorem yP (n size:Int) (w:World) (h0:0≤n) (h1:n≤9223372036854775807) :
  Calls Tryz.prog 190 #[.int .i64 n,.int .i64 size] w fun e w' => e=.returned (.string (Str (aY n size)))∧Below w.heap.size w w' := by
 go_enter Tryz.func190,Tryz.ntmps190;go_wp2_with fail;refine (kD _ _ _ (by omega)).mono ?_;rintro e w1 ⟨rfl,b1⟩;go_wp2_with fail;go_ret;exact ⟨rfl,b1⟩
def bJ (id cap ep:Int):Bool:=inB 1 200 id && inB 0 16777215 cap && inB 1 16 ep && (ep != 16 || cap == 0)
theorem mB (id cap ep nonce:Int) (v:Bool) (w:World) (hv:bJ id cap ep=v) :
  Calls Tryz.prog 283 #[.agg #[.int .i64 id,.int .i64 cap,.int .i64 ep,.int .u64 nonce]] w fun e w' => e=.returned (.bool v)∧Below w.heap.size w w' := by
 have hf:v=(inB 1 200 id && inB 0 16777215 cap && inB 1 16 ep && (ep != 16 || cap == 0)):=hv.symm;clear hv
 cases h1:inB 1 200 id
 all_goals cases h2:inB 0 16777215 cap
 all_goals cases h3:inB 1 16 ep
 all_goals cases h4:(ep != 16)
 all_goals cases h5:(cap == 0)
 all_goals
  rw [h1,h2,h3,h4,h5] at hf;simp only [Bool.and_true,Bool.and_false,Bool.true_and,Bool.false_and,Bool.or_true,Bool.or_false,Bool.false_or,Bool.true_or] at hf;have H1:=Hd h1;have H2:=Hd h2;have H3:=Hd h3;have HF:=Hd hf;clear h1 h2 h3 hf;go_enter Tryz.func283,Tryz.ntmps283
  go_wp2_with ((go_at_call 284; refine (CI _ _ _ _ _ (by first | exact H1.out | exact H2.out | exact H3.out)).mono ?_; rintro e w9 ⟨rfl,rfl⟩))
  go_ret;exact ⟨by rw [HF.out]; rfl,Br.alloc (Nat.le_refl _) _⟩
theorem oD (id cap ep nonce:Int) (w:World):(method 217 169 (.agg #[.int .i64 id,.int .i64 cap,.int .i64 ep,.int .u64 nonce]) "bailiwick/rec.right").run Tryz.prog w=.ok (283,.agg #[.int .i64 id,.int .i64 cap,.int .i64 ep,.int .u64 nonce]) w:=by kernel_rfl
theorem oB (id cap ep nonce:Int) (w:World) (hv:bJ id cap ep=false) :
  Calls Tryz.prog 149 #[.iface 169 (.agg #[.int .i64 id,.int .i64 cap,.int .i64 ep,.int .u64 nonce])] w fun e w' => e=.returned (.tuple #[.string ⟨#[]⟩,.int .i64 1])∧Below w.heap.size w w' := by
 have H:=Hd hv;have hm:=oD id cap ep nonce;clear hv;go_enter Tryz.func149,Tryz.ntmps149;go_wp2_with fail;refine (mB _ _ _ _ false _ H.out).mono ?_;rintro e w1 ⟨rfl,b1⟩;go_wp2_with fail;go_ret2;exact ⟨rfl,b1⟩
def VY:Value:=.agg #[.int .i64 0,.int .i64 0,.int .i64 0,.int .i64 0,.int .i64 0,.int .i64 0,.int .i64 0,.int .i64 0,.int .i64 0,.bool false]
def SO:Value:=.agg #[.int .i64 0,.string ⟨#[]⟩,.int .i64 0,.int .i64 0]
theorem JH (v:Value) (w:World):(Instr.typeAssert (.iface 169 v) 212 179 true).run Tryz.prog w=.ok (.tuple #[VY,.bool false]) w:=by kernel_rfl
theorem xX (v:Value) (w:World):(Instr.typeAssert (.iface 169 v) 212 176 true).run Tryz.prog w=.ok (.tuple #[SO,.bool false]) w:=by kernel_rfl
theorem DH (v:Value) (w:World):(Instr.typeAssert (.iface 169 v) 212 169 true).run Tryz.prog w=.ok (.tuple #[v,.bool true]) w:=by kernel_rfl
theorem RK {S:World→Prop} {w1 a b:World} (C:∀ w', Below w1.heap.size w1 w'→S w') (h:Below w1.heap.size w1 a∧S a) (k:Below a.heap.size a b):Below w1.heap.size w1 b∧S b :=
 ⟨chain h.1 k,C _ (chain h.1 k)⟩
theorem EO (n size:Int) (x:ByteArray) (w:World) (h0:0≤n) (h1:n≤9223372036854775807) (hx:Str (aY n size)=x) :
  Calls Tryz.prog 190 #[.int .i64 n,.int .i64 size] w fun e w' => e=.returned (.string x)∧Below w.heap.size w w' := by
 subst hx;exact yP n size w h0 h1
theorem xK (id cap ep nonce:Int) (x y z:ByteArray) (w:World) (h1:0≤cap) (h2:cap≤9223372036854775807) (h3:0≤ep) (h4:ep≤9223372036854775807) (h5:0≤nonce)
  (hx:Hid (Str (aY cap 3)=x)) (hy:Hid (Str (aY ep 1)=y)) (hz:Hid (Str (aY nonce 8)=z)) (sx:x.size≤8) (sy:y.size≤8) (sz:z.size≤8) :
  Calls Tryz.prog 170 #[.iface 169 (.agg #[.int .i64 id,.int .i64 cap,.int .i64 ep,.int .u64 nonce])] w fun e w' => e=.returned (.string (x ++ y ++ z))∧Below w.heap.size w w' := by
 have q1:=JH (.agg #[.int .i64 id,.int .i64 cap,.int .i64 ep,.int .u64 nonce]);have q2:=xX (.agg #[.int .i64 id,.int .i64 cap,.int .i64 ep,.int .u64 nonce]);have q3:=DH (.agg #[.int .i64 id,.int .i64 cap,.int .i64 ep,.int .u64 nonce]);go_enter Tryz.func170,Tryz.ntmps170;go_wp2_with fail;refine (kD _ _ _ h5).mono ?_;rw [hz.out];rintro e w1 ⟨rfl,b1⟩;have hsz:w.heap.size < (w.alloc (.cells #[.int .i64 id,.int .i64 cap,.int .i64 ep,.int .u64 nonce] 169)).heap.size:=by simp
 have hlt:w.heap.size < w1.heap.size:=Nat.lt_of_lt_of_le hsz b1.size
 have CC:Hid (∀ w', Below w1.heap.size w1 w'→w'.cell? ⟨w.heap.size,1,none⟩=some (.int .i64 cap)∧w'.cell? ⟨w.heap.size,2,none⟩=some (.int .i64 ep)):=Hd fun w' h=>by
  refine ⟨?_,?_⟩
  all_goals
   rw [h.cell hlt,b1.cell hsz];simp
 have bb:Below w.heap.size w w1:=(Br.alloc (Nat.le_refl _) _).trans (b1.mono (Nat.le_of_lt hsz));clear b1 hsz hlt q1 q2 q3;have B0:Below w1.heap.size w1 w1:=Br;have s1:(9223372036854775807 < x.size + y.size)=False:=by rw [eq_iff_iff,iff_false]; omega
 have s2:(9223372036854775807 < x.size + y.size + z.size)=False:=by rw [eq_iff_iff,iff_false]; omega
 go_wp2_with fail;have C0:=CC.out w1 B0
 go_region_held3 (fun w' => Below w1.heap.size w1 w'∧w'.cell? ⟨w.heap.size,1,none⟩=some (.int .i64 cap)∧w'.cell? ⟨w.heap.size,2,none⟩=some (.int .i64 ep)) (first | exact ⟨B0.drew,CC.out _ B0.drew⟩ | exact RK CC.out ⟨B0.drew,CC.out _ B0.drew⟩ b9 | exact RK CC.out (by assumption) b9) ((first | (go_at_call 190; refine (EO _ _ _ _ (by omega) (by omega) (by first | exact hx.out | exact hy.out)).mono ?_; rintro e w9 ⟨rfl,b9⟩)))
 rename_i hH;go_wp2_with fail;go_ret;exact ⟨rfl,chain bb hH.1⟩
theorem dP (n size:Int) (h:size≤8):(Str (aY n size)).size≤8:=by
 rw [bY]; unfold aY; split
 ·rw [M.be_length]; omega
 ·simp
def bK (cap ep nonce:Int):ByteArray:=Str (aY cap 3) ++ Str (aY ep 1) ++ Str (aY nonce 8)
theorem gE {id cap ep:Int} (h:bJ id cap ep=true):0≤cap∧cap≤16777215∧1≤ep∧ep≤16∧1≤id∧id≤200:=by
 unfold bJ at h;simp only [Bool.and_eq_true,iV] at h;omega
theorem mJ (id cap ep nonce:Int) (w:World) (hv:bJ id cap ep=true) (h5:0≤nonce) :
  Calls Tryz.prog 149 #[.iface 169 (.agg #[.int .i64 id,.int .i64 cap,.int .i64 ep,.int .u64 nonce])] w fun e w' => e=.returned (.tuple #[.string (bK cap ep nonce),.int .i64 0])∧Below w.heap.size w w' := by
 have H:=Hd hv;have hi:=gE hv;have hm:=oD id cap ep nonce;have hw:=fun w0=>xK id cap ep nonce _ _ _ w0 hi.1 (by omega) (by omega) (by omega) h5 (Hd rfl) (Hd rfl) (Hd rfl) (dP _ _ (by omega)) (dP _ _ (by omega)) (dP _ _ (by omega))
 have HW:Hid (∀ w0,Calls Tryz.prog 170 #[.iface 169 (.agg #[.int .i64 id,.int .i64 cap,.int .i64 ep,.int .u64 nonce])] w0 fun e w' => e=.returned (.string (bK cap ep nonce))∧Below w0.heap.size w0 w'):=Hd hw;clear hv hw hi;go_enter Tryz.func149,Tryz.ntmps149;go_wp2_with fail;refine (mB _ _ _ _ true _ H.out).mono ?_;rintro e w1 ⟨rfl,b1⟩;go_wp2_with fail;refine (HW.out _).mono ?_;rintro e w2 ⟨rfl,b2⟩;go_wp2_with fail;go_ret2;exact ⟨rfl,chain b1 b2⟩
def uX (id cap ep nonce:Int):ByteArray:=if bJ id cap ep=true then bK cap ep nonce else ⟨#[]⟩
def okE (b:Bool) (n:Int):Int:=if b=true then 0 else n
theorem KD (id cap ep nonce:Int) (w:World) (h5:0≤nonce) :
  Calls Tryz.prog 149 #[.iface 169 (.agg #[.int .i64 id,.int .i64 cap,.int .i64 ep,.int .u64 nonce])] w fun e w' => e=.returned (.tuple #[.string (uX id cap ep nonce),.int .i64 (okE (bJ id cap ep) 1)])∧Below w.heap.size w w' := by
 cases h:bJ id cap ep
 ·have:=oB id cap ep nonce w h
  simpa [uX,okE,h] using this
 ·have:=mJ id cap ep nonce w h h5
  simpa [uX,okE,h] using this
theorem vM (id cap ep nonce:Int) (w:World) (h5:0≤nonce) :
  Calls Tryz.prog 121 #[.agg #[.int .i64 id,.int .i64 cap,.int .i64 ep,.int .u64 nonce]] w fun e w' => e=.returned (.tuple #[.string (uX id cap ep nonce),.int .i64 (okE (bJ id cap ep) 1)])∧Below w.heap.size w w' := by
 go_enter Tryz.func121,Tryz.ntmps121;go_wp2_with fail;refine (KD _ _ _ _ _ h5).mono ?_;rintro e w1 ⟨rfl,b1⟩;go_wp2_with fail;go_ret2;exact ⟨rfl,(Br.alloc (Nat.le_refl _) _).trans (b1.mono (by simp))⟩
def pJ (id cap ep nonce:Int) (s:ByteArray):Bool:=bJ id cap ep && decide (bK cap ep nonce=s)
theorem oW (id cap ep nonce:Int) (s:ByteArray) (w:World) (h5:0≤nonce) :
  Calls Tryz.prog 129 #[.iface 169 (.agg #[.int .i64 id,.int .i64 cap,.int .i64 ep,.int .u64 nonce]),.string s] w fun e w' => e=.returned (.bool (pJ id cap ep nonce s))∧Below w.heap.size w w' := by
 cases hk:bJ id cap ep
 ·have F:Hid (pJ id cap ep nonce s=false):=Hd (by unfold pJ; rw [hk]; rfl)
  have K:=Hd (oB id cap ep nonce w hk);clear hk;go_enter Tryz.func129,Tryz.ntmps129;go_wp2_with fail;refine K.out.mono ?_;rintro e w1 ⟨rfl,b1⟩;go_wp2_with fail;go_ret;exact ⟨by rw [F.out]; rfl,b1⟩
 ·have K:=Hd (mJ id cap ep nonce w hk h5)
  have F:Hid (pJ id cap ep nonce s=((bK cap ep nonce).toList == s.toList)):=Hd (by
   unfold pJ; rw [hk,wC,Bool.true_and])
  clear hk;generalize bK cap ep nonce=x at *;go_enter Tryz.func129,Tryz.ntmps129;go_wp2_with fail;refine K.out.mono ?_;rintro e w1 ⟨rfl,b1⟩;go_wp2_with fail;go_ret;exact ⟨by rw [F.out]; rfl,b1⟩
def FB (w:World) (g:Nat) (s:ByteArray):Prop:=w.heap[g]?=some (.cells #[.string s] 166)
theorem FB.lt {w:World} {g:Nat} {s:ByteArray} (h:FB w g s):g < w.heap.size:=(zl h)
theorem FB.below {w w' : World} {g:Nat} {s:ByteArray} (h:FB w g s) (b:Below w.heap.size w w'):FB w' g s:=by
 have:=h.lt;unfold FB at h ⊢;rw [b.block g this]; exact h
theorem FB.set {w:World} {g:Nat} {s:ByteArray} (h:FB w g s) (t:ByteArray):FB (w.setCell ⟨g,0,none⟩ (.string t)) g t:=by
 have:=Go.Joins.block_setCell (i:=0) h (.string t)
 simpa [FB] using this
theorem oZ (g:Nat) (s:ByteArray) (size:Int) (w:World) (h:FB w g s) :
  Calls Tryz.prog 128 #[.pointer (some ⟨g,0,none⟩),.int .i64 size] w fun e w' => e=.returned (.int .u64 (aH s size))∧FB w' g (aB s size)∧Below g w w' := by
 have c0:=cl h 0 rfl;have H:=Hd h;clear h;go_enter Tryz.func128,Tryz.ntmps128;go_wp2_with fail;refine (pF _ _ _).mono ?_;rintro e w1 ⟨rfl,b1⟩;have H1:=Hd (H.out.below b1);have c1:=cl H1.out 0 rfl;have f1:w1.frozen? ⟨g,0,none⟩=false:=ufb H1.out 0;have hb:=b1.mono (Nat.le_of_lt H.out.lt);clear b1;go_wp2_with fail;go_ret;exact ⟨rfl,H1.out.set _,hb.setCell (Nat.le_refl _) _⟩
theorem uO (s:ByteArray) (size:Int) (h:size≤4):0≤aH s size∧aH s size≤4294967295:=by
 unfold aH
 split
 ·rename_i hk
  have hl:=M.val_lt (s.data.toList.take size.toNat);have:(s.data.toList.take size.toNat).length≤4:=by rw [List.length_take]; omega
  have hp:256 ^ (s.data.toList.take size.toNat).length≤256 ^ 4:=Nat.pow_le_pow_right (by decide) this;have:M.val (s.data.toList.take size.toNat) < 256 ^ 4:=Nat.lt_of_lt_of_le hl hp;omega
 ·omega
theorem oP (g:Nat) (s:ByteArray) (size:Int) (w:World) (h:FB w g s) (hz:size≤4) :
  Calls Tryz.prog 127 #[.pointer (some ⟨g,0,none⟩),.int .i64 size] w fun e w' => e=.returned (.int .i64 (aH s size))∧FB w' g (aB s size)∧Below g w w' := by
 have hr:=uO s size hz;have H:=Hd (oZ g s size w h);clear h;generalize aH s size=n at *;go_enter Tryz.func127,Tryz.ntmps127;go_wp2_with fail;refine H.out.mono ?_;rintro e w1 ⟨rfl,f1,b1⟩;go_wp2_with fail;go_ret;exact ⟨rfl,f1,b1⟩
def tsC (s:ByteArray):Int:=aH s 3
def tsE (s:ByteArray):Int:=aH (aB s 3) 1
def tsN (s:ByteArray):Int:=aH (aB (aB s 3) 1) 8
def kU (id:Int) (s:ByteArray):Bool:=pJ id (tsC s) (tsE s) (tsN s) s
theorem aV {P:Program} {fn:Func} {p u:Tmp} {ty:TypeId} (h:fn.results=#[.cell p ty,.tmp u]) (tmps:Array Value) (w:World) (g:Nat) (t:TypeId) (cs:Array Value) (fr:Nat × Nat) (d:TypeDesc) (v:Value)
  (hp:tmps.getD p undef=.pointer (some ⟨g,0,none⟩)) (hv:tmps.getD u undef=v) (hg:w.heap[g]?=some (.cells cs t fr))
  (hu:P.underlying ty=some d) (hd:(match d with | .struct _ | .array _ _=>true | _=>false)=true) (hi:(P.info? ty).map (·.size)=some cs.size) :
  (results fn tmps).run P w=.ok (.tuple #[.agg cs,v]) w:=by
 rw [results_cell_tmp h,hp,hv];simp [asAddr,run_loadVar_row w g t ty cs fr d hg hu hd hi,Result.andThen]
def OA (w:World) (g:Nat) (i:Nat):List Value→World
 | []=>w
 | v :: vs=>OA (w.setCell ⟨g,i,none⟩ v) g (i + 1) vs
theorem nD (g:Nat) (t:TypeId) (fr:Nat × Nat):∀ (vs:List Value) (w:World) (i:Nat) (cs:Array Value),w.heap[g]?=some (.cells cs t fr)→i + vs.length=cs.size →
  (OA w g i vs).heap[g]?=some (.cells (cs.toList.take i ++ vs).toArray t fr)
 | [],w,i,cs,h,hl=>by
  have:cs.toList.take i=cs.toList:=List.take_of_length_le (by simp at hl ⊢; omega);rw [this,List.append_nil]; exact h
 | v :: vs,w,i,cs,h,hl=>by
  have hi:i < cs.size:=by rw [List.length_cons] at hl; omega
  have:=nD g t fr vs (w.setCell ⟨g,i,none⟩ v) (i + 1) (cs.setIfInBounds i v) (Go.Joins.block_setCell h v) (by rw [Array.size_setIfInBounds]; rw [List.length_cons] at hl; omega);rw [OA,this]
  have e:(cs.setIfInBounds i v).toList.take (i + 1)=cs.toList.take i ++ [v]:=by
   rw [Array.toList_setIfInBounds,List.take_add_one,List.getElem?_set_self (by simpa using hi),List.take_set_of_le (Nat.le_refl _)]
   rfl
  rw [e,List.append_assoc]; rfl
theorem kX {B:Nat} {w0:World} (g:Nat) (h:B≤g):∀ (vs:List Value) (w:World) (i:Nat),Below B w0 w→Below B w0 (OA w g i vs)
 | [],w,i,b=>b
 | v :: vs,w,i,b=>kX g h vs _ _ (b.setCell h v)
theorem cP:(Tryz.prog.info? 32).map (·.size)=some 4:=by kernel_rfl
theorem uN (id:Int) (s:ByteArray) (w:World) (hk:kU id s=false) :
  Calls Tryz.prog 61 #[.int .i64 id,.string s] w fun e w' => e=.returned (.tuple #[.agg #[.int .i64 0,.int .i64 0,.int .i64 0,.int .u64 0],.int .i64 2])∧Below w.heap.size w w' := by
 have H:=Hd hk;unfold kU tsC tsE tsN at H;have N5:Hid (0≤aH (aB (aB s 3) 1) 8):=Hd (by unfold aH; split <;> omega);clear hk;go_enter Tryz.func61,Tryz.ntmps61;go_wp2_with fail;refine (oP _ s _ _ (heap_alloc2_new _ _ _) (by decide)).mono ?_;rintro e w1 ⟨rfl,f1,b1⟩;have F1:=Hd f1;have R1:Hid (w1.heap[w.heap.size]?=some (.cells #[.int .i64 0,.int .i64 0,.int .i64 0,.int .u64 0] 32)):=Hd (by rw [b1.block _ (Nat.lt_succ_self _)]; exact heap_alloc2_old _ _ _)
 have B1:Hid (Below w.heap.size w w1):=Hd ((Br.alloc (Nat.le_refl _) _).alloc (by simp) _ |>.trans (b1.mono (by simp)));clear f1 b1;go_wp2_with fail;refine (oP _ _ _ _ F1.out (by decide)).mono ?_;rintro e w2 ⟨rfl,f2,b2⟩;have F2:=Hd f2;have R2:Hid (w2.heap[w.heap.size]?=some (.cells #[.int .i64 0,.int .i64 0,.int .i64 0,.int .u64 0] 32)):=Hd (by rw [b2.block _ (Nat.lt_succ_self _)]; exact R1.out);have B2:Hid (Below w.heap.size w w2):=Hd (B1.out.trans (b2.mono (by simp)));clear f2 b2 F1 R1 B1;go_wp2_with fail;refine (oZ _ _ _ _ F2.out).mono ?_
 rintro e w3 ⟨rfl,f3,b3⟩;have R3:Hid (w3.heap[w.heap.size]?=some (.cells #[.int .i64 0,.int .i64 0,.int .i64 0,.int .u64 0] 32)):=Hd (by rw [b3.block _ (Nat.lt_succ_self _)]; exact R2.out);have B3:Hid (Below w.heap.size w w3):=Hd (B2.out.trans (b3.mono (by simp)));clear f3 b3 F2 R2 B2;generalize aH s 3=n1 at *;generalize aH (aB s 3) 1=n2 at *;generalize aH (aB (aB s 3) 1) 8=n3 at *;go_wp2_with fail;refine (oW _ _ _ _ _ _ N5.out).mono ?_;rw [H.out];rintro e w4 ⟨rfl,b4⟩;have hlt:w.heap.size < w3.heap.size:=(zl R3.out)
 have R4:w4.heap[w.heap.size]?=some (.cells #[.int .i64 0,.int .i64 0,.int .i64 0,.int .u64 0] 32):=by
  rw [b4.block _ (by simp; omega),Below.heap_alloc w3 _ _ hlt]; exact R3.out
 have B4:Hid (Below w.heap.size w w4):=Hd ((B3.out.alloc (Nat.le_of_lt hlt) _).trans (b4.mono (by simp; omega)));have c0:=cl R4 0 rfl;have c1:=cl R4 1 rfl;have c2:=cl R4 2 rfl;have c3:=cl R4 3 rfl;have f0:=ufb R4 0;have f1:=ufb R4 1;have f2:=ufb R4 2;have f3:=ufb R4 3;have R5:=Hd (nD w.heap.size 32 (0,0) [.int .i64 0,.int .i64 0,.int .i64 0,.int .u64 0] w4 0 _ R4 rfl);have B5:=Hd (kX w.heap.size (Nat.le_refl _) [.int .i64 0,.int .i64 0,.int .i64 0,.int .u64 0] w4 0 B4.out);clear b4 R3 B3 R4 B4;go_wp2_with fail
 exact bodyPost_ret (v:=.tuple #[.agg #[.int .i64 0,.int .i64 0,.int .i64 0,.int .u64 0],.int .i64 2]) (aV Tryz.results61 _ _ w.heap.size 32 _ (0,0) _ _ rfl rfl R5.out Tryz.underlying32 rfl cP) rfl ⟨rfl,B5.out⟩
theorem lX (id:Int) (s:ByteArray) (w:World) (hk:kU id s=true) :
  Calls Tryz.prog 61 #[.int .i64 id,.string s] w fun e w' => e=.returned (.tuple #[.agg #[.int .i64 id,.int .i64 (tsC s),.int .i64 (tsE s),.int .u64 (tsN s)],.int .i64 0])∧Below w.heap.size w w' := by
 have H:=Hd hk;unfold kU tsC tsE tsN at H
 show Calls _ _ _ _ fun e w' => e=.returned (.tuple #[.agg #[.int .i64 id,.int .i64 (aH s 3),.int .i64 (aH (aB s 3) 1),.int .u64 (aH (aB (aB s 3) 1) 8)],.int .i64 0])∧Below w.heap.size w w'
 have N5:Hid (0≤aH (aB (aB s 3) 1) 8):=Hd (by unfold aH; split <;> omega);clear hk;generalize h1:aH s 3=n1 at *;generalize h2:aH (aB s 3) 1=n2 at *;generalize h3:aH (aB (aB s 3) 1) 8=n3 at *;have E1:=Hd h1;have E2:=Hd h2;have E3:=Hd h3;clear h1 h2 h3;go_enter Tryz.func61,Tryz.ntmps61;go_wp2_with fail;refine (oP _ s _ _ (heap_alloc2_new _ _ _) (by decide)).mono ?_;rw [E1.out];rintro e w1 ⟨rfl,f1,b1⟩;have F1:=Hd f1
 have R1:Hid (w1.heap[w.heap.size]?=some (.cells #[.int .i64 0,.int .i64 0,.int .i64 0,.int .u64 0] 32)):=Hd (by rw [b1.block _ (Nat.lt_succ_self _)]; exact heap_alloc2_old _ _ _);have B1:Hid (Below w.heap.size w w1):=Hd ((Br.alloc (Nat.le_refl _) _).alloc (by simp) _ |>.trans (b1.mono (by simp)));clear f1 b1;go_wp2_with fail;refine (oP _ _ _ _ F1.out (by decide)).mono ?_;rw [E2.out];rintro e w2 ⟨rfl,f2,b2⟩;have F2:=Hd f2
 have R2:Hid (w2.heap[w.heap.size]?=some (.cells #[.int .i64 0,.int .i64 0,.int .i64 0,.int .u64 0] 32)):=Hd (by rw [b2.block _ (Nat.lt_succ_self _)]; exact R1.out);have B2:Hid (Below w.heap.size w w2):=Hd (B1.out.trans (b2.mono (by simp)));clear f2 b2 F1 R1 B1;go_wp2_with fail;refine (oZ _ _ _ _ F2.out).mono ?_;rw [E3.out];rintro e w3 ⟨rfl,f3,b3⟩;have R3:Hid (w3.heap[w.heap.size]?=some (.cells #[.int .i64 0,.int .i64 0,.int .i64 0,.int .u64 0] 32)):=Hd (by rw [b3.block _ (Nat.lt_succ_self _)]; exact R2.out)
 have B3:Hid (Below w.heap.size w w3):=Hd (B2.out.trans (b3.mono (by simp)));clear f3 b3 F2 R2 B2;go_wp2_with fail;refine (oW _ _ _ _ _ _ N5.out).mono ?_;rw [H.out];rintro e w4 ⟨rfl,b4⟩;have hlt:w.heap.size < w3.heap.size:=(zl R3.out);have X4:Hid (w4.heap[w3.heap.size]?=some (.cells #[.int .i64 id,.int .i64 n1,.int .i64 n2,.int .u64 n3] 32)):=Hd (by rw [b4.block _ (by simp)]; exact han _ _);have d0:=cl X4.out 0 rfl;have d1:=cl X4.out 1 rfl;have d2:=cl X4.out 2 rfl;have d3:=cl X4.out 3 rfl
 have R4:w4.heap[w.heap.size]?=some (.cells #[.int .i64 0,.int .i64 0,.int .i64 0,.int .u64 0] 32):=by
  rw [b4.block _ (by simp; omega),Below.heap_alloc w3 _ _ hlt]; exact R3.out
 have B4:Hid (Below w.heap.size w w4):=Hd ((B3.out.alloc (Nat.le_of_lt hlt) _).trans (b4.mono (by simp; omega)));have c0:=cl R4 0 rfl;have c1:=cl R4 1 rfl;have c2:=cl R4 2 rfl;have c3:=cl R4 3 rfl;have f0:=ufb R4 0;have f1:=ufb R4 1;have f2:=ufb R4 2;have f3:=ufb R4 3;have R5:=Hd (nD w.heap.size 32 (0,0) [.int .i64 id,.int .i64 n1,.int .i64 n2,.int .u64 n3] w4 0 _ R4 rfl);have B5:=Hd (kX w.heap.size (Nat.le_refl _) [.int .i64 id,.int .i64 n1,.int .i64 n2,.int .u64 n3] w4 0 B4.out);clear b4 R3 B3 R4 B4 X4;go_wp2_with fail
 exact bodyPost_ret (v:=.tuple #[.agg #[.int .i64 id,.int .i64 n1,.int .i64 n2,.int .u64 n3],.int .i64 0]) (aV Tryz.results61 _ _ w.heap.size 32 _ (0,0) _ _ rfl rfl R5.out Tryz.underlying32 rfl cP) rfl ⟨rfl,B5.out⟩
def tsV (id:Int) (s:ByteArray):Value:=if kU id s=true then .agg #[.int .i64 id,.int .i64 (tsC s),.int .i64 (tsE s),.int .u64 (tsN s)] else .agg #[.int .i64 0,.int .i64 0,.int .i64 0,.int .u64 0]
theorem sV (id:Int) (s:ByteArray) (w:World) :
  Calls Tryz.prog 61 #[.int .i64 id,.string s] w fun e w' => e=.returned (.tuple #[tsV id s,.int .i64 (okE (kU id s) 2)])∧Below w.heap.size w w' := by
 cases h:kU id s
 ·have:=uN id s w h
  simpa [tsV,okE,h] using this
 ·have:=lX id s w h
  simpa [tsV,okE,h] using this
open Go Go.RowKit
theorem kW (w:World) (t:Nat) :
  Calls Tryz.prog 49 #[.pointer (some ⟨t,0,none⟩)] w fun e w' => e=.returned (.func (.func 118) #[] #[.pointer (some ⟨w.heap.size,0,none⟩)])∧w'.heap[w.heap.size]?=some (.cells #[.pointer (some ⟨t,0,none⟩)] 24)∧Below w.heap.size w w'∧w'.heap.size=w.heap.size + 1:=by
 obtain ⟨x0,hx0⟩:∃ x,w.alloc (.cells #[.pointer (some ⟨t,0,none⟩)] 24)=x:=⟨_,rfl⟩
 obtain ⟨s0,m0,b0⟩:=bQ hx0 rfl;have FIN:=Hd (And.intro m0 (And.intro b0 s0));clear s0 m0 b0;go_enter Tryz.func49,Tryz.ntmps49;go_wp2_with fail;go_ret;exact ⟨rfl,FIN.out⟩
def MO (e:Ent):Array Value:=#[.agg #[.int .i64 (spB e.1),.int .i64 (tsC e.2),.int .i64 (tsE e.2),.int .u64 (tsN e.2),.int .i64 0]]
def GS (w0:World) (F:Nat→Prop) (t b:Nat) (k:Nat):Prop:=F k∨k=t∨k=b∨k < w0.heap.size
def gJ (E:List Ent):List Ent:=(aQ 4611686018427387904 E).takeWhile fun e=>jC e.1 4 0
section
attribute [local go_sem] Oper.semAt_some
theorem kV {w0 w:World} {F:Nat→Prop} {t d s n b:Nat} {E:List Ent} (h:TxF w0 F w t d s n E) (hE:E.length≤600) (hS:mZ E) (hK:∀ e∈E,0≤e.1∧e.1≤18446744073709551615) (hb:w.heap[b]?=some (.cells #[.pointer (some ⟨t,0,none⟩)] 24))
  (hok:∀ e∈gJ E,kU (spB e.1) e.2=true) :
  qU Tryz.prog 118 #[.pointer (some ⟨b,0,none⟩)] MO (GS w0 F t b) (fun W=>TxF w0 F W t d s n E) (gJ E) w:=by
 intro l J Jx W C hW hJ hJx hlt hltx hCG hR h0;have hTW:=h.below hW;have lbw:=(zl hb);have hbW:=(hW.block b lbw).trans hb;have lW:=hTW.lt;have lb:b < W.heap.size:=(zl hbW);obtain ⟨y,hy⟩:∃ y,W.heap.size=y:=⟨_,rfl⟩
 obtain ⟨W1,hW1⟩:∃ W1,W.alloc (.cells #[.func (.yield l) #[] #[]] 157)=W1:=⟨_,rfl⟩
 obtain ⟨s1,m1,bW1⟩:=bQ hW1 hy;have hbW1:=(bW1.block b lb).trans hbW;have hT1:=hTW.below bW1;have c1:=(aJ hbW1).1;obtain ⟨Ys,hYs⟩:∃ Ys,gJ E=Ys:=⟨_,rfl⟩
 rw [hYs] at hR hok ⊢;have HYS:=Hd hYs;have HSK:=Hd (And.intro hS (And.intro hK (And.intro hE hok)));have HT1:=Hd hT1;have HTW:=Hd hTW;have HLB:=Hd (And.intro lW lb);have HM1:=Hd (And.intro s1 (And.intro m1 bW1));have HSZ:=Hd hy;have J1:=Hd (hJ _ _ _ _ h0 (.of_frm (G:=fun _=>False) (Frm.of_below bW1) fun _ _ h=>h));have HC0:Hid (∀ k,C k→k < y):=Hd fun k hk=>by have:=hlt _ _ _ h0 k hk; omega
 have HCG:=Hd hCG;clear h hE hS hK hb hok hTW hbW lbw lW lb s1 m1 bW1 hbW1 hT1 hYs hW h0 hCG;refine (callsIn_wide (n:=0)).1 (callsIn_of_wp_marks (F:=Fence.wide) (n:=0) Tryz.func118 rfl trivial (wpIn_wide.2 ?_) rfl);simp only [Tryz.ntmps118,List.size_toArray,List.length_cons,List.length_nil,Nat.reduceAdd,Nat.reduceSub,Array.replicate_succ,Array.replicate_zero,List.push_toArray,List.append_toArray,List.nil_append,List.cons_append];rw [hy];clear hy;go_upto_region 1 with fail
 try rw [hW1]
 clear hW1;go_wp2_with fail;refine (EM _ t 4 0 0).mono ?_;rintro e w3 ⟨rfl,m3,q3,s3⟩;rw [HM1.out.1] at m3 q3 s3 ⊢;clear c1;go_wp2_with fail;have hm1:=HM1.out;have hT3:=HT1.out.below (by rw [hm1.1]; exact q3);have my:w3.heap[y]?=some (.cells #[.func (.yield l) #[] #[]] 157):=(q3.block y (by omega)).trans hm1.2.1;have lF:=hT3.lt;have lW:=HLB.out.1;have lb:=HLB.out.2;have hSZ:=HSZ.out;have hF0:=HTW.out.from.size
 have hit:=EL hT3 HSK.out.2.2.1 HSK.out.1 HSK.out.2.1 m3 ⟨⟨fun h=>by have:=lW.1 _ h; omega,by omega,by omega⟩,⟨fun h=>by have:=lW.1 _ h; omega,by omega,by omega⟩⟩ (by decide) (bg:=4611686018427387904) (by decide);rw [show ((aQ 4611686018427387904 E).takeWhile fun e=>jC e.1 4 0)=Ys from HYS.out] at hit;obtain ⟨Y,hY⟩:∃ Y:List (Nat × Obj),Y=[(y,.cells #[.func (.yield l) #[] #[]] 157)]:=⟨_,rfl⟩
 have gY:∀ k,k∈Y.map (·.1) ↔ k=y:=fun k=>by rw [hY]; simp
 have yY:(y,Obj.cells #[.func (.yield l) #[] #[]] 157)∈Y:=by rw [hY]; simp
 have hJ3:=hJ _ _ _ _ J1.out (.of_frm (G:=fun _=>False) (Frm.of_below (by rw [hm1.1]; exact q3)) fun _ _ h=>h)
 have hY3:∀ p∈Y,w3.heap[p.1]?=some p.2∧¬ C p.1:=fun p hp=>by
  rw [hY] at hp;obtain rfl:=List.mem_singleton.1 hp;exact ⟨my,fun hc=>by have:=HC0.out _ hc; omega⟩
 clear hY;have f13:Frm (fun _=>False) W w3:=(Frm.of_below (hm1.2.2)).trans (G:=fun _=>False) (Frm.of_below (by rw [hm1.1]; exact q3)) fun _ h=>h.elim
 have AFT:∀ (D:Nat) (C' C2:Nat→Prop) (Wz:World),w3.heap.size≤D→(∀ k,C' k ↔ C2 k∨k∈Y.map (·.1))→(∀ p∈Y,Wz.heap[p.1]?=some p.2∧¬ C2 p.1)→Frm (fun k=>(C k∨k∈Y.map (·.1))∨GN w0 F t (y + 1 + 1) (y + 1 + 2) (y + 1 + 3) (y + 1) k) w3 Wz→(∀ k,C' k→(C k∨k∈Y.map (·.1))∨w3.heap.size≤k)→¬ C' D→Wz.heap[D]?=some (.deferred (some []))→Frm (fun k=>C k∨GS w0 F t b k) W Wz∧(∀ k,C2 k→C k∨W.heap.size≤k)∧Marks Wz [D]∧∀ D'∈[D],W.heap.size≤D'∧¬ C2 D' := by
  intro D C' C2 Wz hDz hDi hy2 hfr hC' hnD hdef;refine ⟨(f13.mono fun _ h=>h.elim).trans hfr fun k hk=>?_,fun k hk=>?_,(Marks.nil Wz).cons (by simp) hdef,fun D' hD' => ?_⟩
  ·rcases hk with (hk | hk) | hk
   ·exact .inl (.inl hk)
   ·have:=(gY k).1 hk; exact .inr (by omega)
   ·rcases hk with hk | rfl | rfl | rfl | rfl | rfl | hk
    ·exact .inl (.inr (.inl hk))
    ·exact .inl (.inr (.inr (.inl rfl)))
    ·exact .inr (by omega)
    ·exact .inr (by omega)
    ·exact .inr (by omega)
    ·exact .inr (by omega)
    ·exact .inl (.inr (.inr (.inr (.inr hk))))
  ·rcases hC' k ((hDi k).2 (.inl hk)) with (h1 | h1) | h1
   ·exact .inl h1
   ·obtain ⟨p,hp,rfl⟩:=List.mem_map.1 h1
    exact absurd hk (hy2 p hp).2
   ·exact .inr (by omega)
  ·obtain rfl:=List.mem_singleton.1 hD'
   exact ⟨by omega,fun hx=>hnD ((hDi _).2 (.inl hx))⟩
 refine (wpIn_wide (n:=0)).1 (lC rfl (enters_of Tryz.func133 (by kernel_rfl) rfl) hit (fun Wz lz o hz hv=>?_) (fun k hk=>?_) (by intro _; rfl) (fun k=>C k∨k∈Y.map (·.1)) (fun k hk hg=>?_) (IB J Y) (fun c pre D Wz=>c=.ret∧IB Jx Y pre D Wz) (IB.on hJ) (fun c s D A B hh ho=>⟨hh.1,IB.on hJx s D A B hh.2 ho⟩) (IB.lt hlt) (fun c s D A hh=>IB.lt hltx s D A hh.2) ⟨C,fun _=>Iff.rfl,hJ3,hY3⟩ ?_ ?_ ?_)
 ·exact hv.frm (bH Wz lz o) fun k hk=>by subst hk; exact ⟨fun e=>by have:=lF.1 _ e; omega,by omega,by have:=hT3.from.size; omega⟩
 ·rcases hk with hk | rfl | rfl | rfl | rfl | rfl | hk
  ·exact lF.1 _ hk
  ·exact lF.2.1
  ·omega
  ·omega
  ·omega
  ·omega
  ·have:=hT3.from.size; omega
 ·rcases hk with hk | hk
  ·rcases hg with hg | rfl | rfl | rfl | rfl | rfl | hg
   ·exact HCG.out _ hk (.inl hg)
   ·exact HCG.out _ hk (.inr (.inl rfl))
   ·have:=HC0.out _ hk; omega
   ·have:=HC0.out _ hk; omega
   ·have:=HC0.out _ hk; omega
   ·have:=HC0.out _ hk; omega
   ·exact HCG.out _ hk (.inr (.inr (.inr hg)))
  ·obtain rfl:=(gY k).1 hk
   rcases hg with hg | hg | hg | hg | hg | hg | hg
   ·have:=lW.1 _ hg; omega
   ·omega
   ·omega
   ·omega
   ·omega
   ·omega
   ·omega
 ·intro l' pre x D Wz hpre hI hD hz hnl hll
  obtain ⟨xk,xv⟩:=x;have hxY:(xk,xv)∈Ys:=hpre.subset (by simp);have TS:=Hd (fun w=>lX (spB xk) xv w (HSK.out.2.2.2 _ hxY));have HPRE:=Hd hpre;unfold TM;gi_wp2;refine ⟨Br,fun Wb hfb hIb=>?_⟩;have HIB:=Hd hIb;clear hIb hxY hpre hfb
  gi_wp2_with fail
  refine ⟨trivial,rfl,?_⟩;refine (CallsIn.inRound l' (callsIn_wide.2 (TS.out _))).mono ?_;rintro e w8 ⟨rfl,b8⟩;obtain ⟨w9,hw9⟩:∃ w9,w8.alloc (.cells #[.int .i64 (spB xk),.int .i64 (tsC xv),.int .i64 (tsE xv),.int .u64 (tsN xv)] 32)=w9:=⟨_,rfl⟩
  obtain ⟨s9,m9,b9⟩:=bQ hw9 rfl
  obtain ⟨z0,z1,z2,z3⟩:w9.cell? ⟨w8.heap.size,0,none⟩=some (.int .i64 (spB xk))∧w9.cell? ⟨w8.heap.size,1,none⟩=some (.int .i64 (tsC xv))∧w9.cell? ⟨w8.heap.size,2,none⟩=some (.int .i64 (tsE xv))∧w9.cell? ⟨w8.heap.size,3,none⟩=some (.int .u64 (tsN xv)):=by
   refine ⟨?_,?_,?_,?_⟩ <;> (rw [cob m9]; rfl)
  have hb9:Below Wb.heap.size Wb w9:=b8.trans (b9.mono b8.size);have hI9:=IB.on hJ _ _ _ _ HIB.out (.of_frm (G:=fun _=>False) (Frm.of_below hb9) fun _ _ h=>h);obtain ⟨C2,hDi,hjb,hyY⟩:=hI9;have k0:=(aJ (hyY _ yY).1).1;obtain ⟨fn2,tmps2,assign2,body2,hyl2,hRR2⟩:=hR pre (xk,xv) C2 w9 HPRE.out hjb;have HB9:=Hd hb9;unfold MO at hyl2;clear s9 m9 b9 b8 hb9
  gi_wp2_with fail
  refine ⟨rfl,?_⟩;refine hRR2.mono ?_;rintro e wz ⟨C8,ho8,(⟨rfl,hj8⟩ | ⟨rfl,hj8⟩)⟩
  ·gi_wp2
   obtain ⟨D', hD1,hD2⟩:=IB.next hDi hyY ho8 hj8;exact ⟨D', (show Own1 D Wb D w9 from ⟨(Frm.of_below (F:=fun _=>False) HB9.out).mono fun _ h=>h.elim,fun _ h=>.inl h⟩).trans hD1,hD2⟩
  ·gi_wp2
   obtain ⟨D', hD1,hD2⟩:=IB.next hDi hyY ho8 hj8;exact ⟨D', (show Own1 D Wb D w9 from ⟨(Frm.of_below (F:=fun _=>False) HB9.out).mono fun _ h=>h.elim,fun _ h=>.inl h⟩).trans hD1,rfl,hD2⟩
 ·intro D C' Wz hDz hI hV hfr hC' hnD hdef
  obtain ⟨C2,hDi,hj2,hy2⟩:=hI;obtain ⟨g1,g2,g3,g4⟩:=AFT D C' C2 Wz hDz hDi hy2 hfr hC' hnD hdef;clear hit hfr hC' hDi;go_wp2_with fail;exact MM (P:=Tryz.prog) (Ys:=Ys) rfl hJ hJx g1 g2 hV HTW.out [D] g3 g4 (.inl hj2) HSZ.out
 ·rintro D c pre C' Wz hDz hpre ⟨rfl,hI⟩ hV hfr hC' hnD hdef
  refine wpIn_wide.2 ?_;obtain ⟨C2,hDi,hj2,hy2⟩:=hI;obtain ⟨g1,g2,g3,g4⟩:=AFT D C' C2 Wz hDz hDi hy2 hfr hC' hnD hdef;have HP:=Hd hpre;clear hpre;go_wp2_with fail;exact MM (P:=Tryz.prog) (Ys:=Ys) rfl hJ hJx g1 g2 hV HTW.out [D] g3 g4 (.inr ⟨pre,HP.out,hj2⟩) HSZ.out
end
def eG (ca:Int):Bool:=ca != 0
def bX (ca nn nc:Int):Bool:=(ca != 0) && (nn == nc)
def eE (ca ep:Int):Bool:=(ca == 0) && decide (ep≤15)
theorem jU (id ca ep nn e:Int) (w:World) (v:Bool) (hv:eG ca=v) :
  Calls Tryz.prog 57 #[.agg #[.int .i64 id,.int .i64 ca,.int .i64 ep,.int .u64 nn,.int .i64 e]] w fun e' w' => e'=.returned (.bool v)∧Below w.heap.size w w' := by
 have HV:=Hd hv;clear hv
 by_cases h:ca=0
 ·subst h
  go_enter Tryz.func57,Tryz.ntmps57;go_wp2_with fail;go_ret;exact ⟨by rw [← HV.out]; rfl,Br.alloc (Nat.le_refl _) _⟩
 ·have h1:(ca == 0)=false:=by simpa using h
  have h2:(ca != 0)=true:=by simp [h]
  have HH:=Hd h2;clear h;go_enter Tryz.func57,Tryz.ntmps57;go_wp2_with fail;go_ret;exact ⟨by rw [← HV.out]; unfold eG; rw [HH.out]; rfl,Br.alloc (Nat.le_refl _) _⟩
theorem sJ (id ca ep nn e nc:Int) (w:World) (v:Bool) (hv:bX ca nn nc=v) :
  Calls Tryz.prog 50 #[.agg #[.int .i64 id,.int .i64 ca,.int .i64 ep,.int .u64 nn,.int .i64 e],.int .u64 nc] w fun e' w' => e'=.returned (.bool v)∧Below w.heap.size w w' := by
 have HV:=Hd hv;clear hv;obtain ⟨x1,hx1⟩:∃ x1,w.alloc (.cells #[.int .i64 id,.int .i64 ca,.int .i64 ep,.int .u64 nn,.int .i64 e] 92)=x1:=⟨_,rfl⟩
 obtain ⟨s1,m1,b1⟩:=bQ hx1 rfl;have X1:=Hd (And.intro m1 b1)
 obtain ⟨q0,q1,q2,q3,q4⟩:x1.cell? ⟨w.heap.size,0,none⟩=some (.int .i64 id)∧x1.cell? ⟨w.heap.size,1,none⟩=some (.int .i64 ca)∧x1.cell? ⟨w.heap.size,2,none⟩=some (.int .i64 ep)∧x1.cell? ⟨w.heap.size,3,none⟩=some (.int .u64 nn)∧x1.cell? ⟨w.heap.size,4,none⟩=some (.int .i64 e):=by
  refine ⟨?_,?_,?_,?_,?_⟩ <;> (rw [cob m1]; rfl)
 clear s1 m1 b1
 cases hl:eG ca
 ·have LI:=Hd (fun w=>jU id ca ep nn e w false hl)
  have HL:Hid (bX ca nn nc=false):=Hd (by unfold eG at hl; unfold bX; rw [hl]; rfl);clear hl;go_enter Tryz.func50,Tryz.ntmps50;go_upto_region 1 with fail
  try rw [hx1]
  clear hx1;go_wp2_with fail;refine (LI.out _).mono ?_;rintro e' w2 ⟨rfl,b2⟩;have HB:=Hd (chain X1.out.2 b2);clear q0 q1 q2 q3 q4 b2;go_wp2_with fail;go_ret;exact ⟨by rw [← HV.out,HL.out]; rfl,HB.out⟩
 ·have LI:=Hd (fun w=>jU id ca ep nn e w true hl)
  have HL:Hid (bX ca nn nc=(nn == nc)):=Hd (by unfold eG at hl; unfold bX; rw [hl]; rfl);clear hl;go_enter Tryz.func50,Tryz.ntmps50;go_upto_region 1 with fail
  try rw [hx1]
  clear hx1;go_wp2_with fail;refine (LI.out _).mono ?_;rintro e' w2 ⟨rfl,b2⟩;have HB:=Hd (chain X1.out.2 b2);have m2:=(b2.block w.heap.size (zl X1.out.1)).trans X1.out.1;have k3:=cl m2 3 rfl;clear q0 q1 q2 q3 q4 b2 m2;go_wp2_with fail;go_ret;exact ⟨by rw [← HV.out,HL.out]; rfl,HB.out⟩
theorem EK {ca ep:Int} (hl:eG ca=false):eE ca ep=decide (ep≤15):=by
 unfold eG at hl;unfold eE;have h:ca=0:=by simpa using hl
 subst h;simp
theorem EJ {ca ep:Int} (hl:eG ca=true):eE ca ep=false:=by
 unfold eG at hl;unfold eE;have h:(ca == 0)=false:=by simpa using hl
 rw [h]; rfl
theorem wK (id ca ep nn e:Int) (w:World) (v:Bool) (hv:eE ca ep=v) :
  Calls Tryz.prog 120 #[.agg #[.int .i64 id,.int .i64 ca,.int .i64 ep,.int .u64 nn,.int .i64 e]] w fun e' w' => e'=.returned (.bool v)∧Below w.heap.size w w' := by
 have HV:=Hd hv;clear hv;obtain ⟨x1,hx1⟩:∃ x1,w.alloc (.cells #[.int .i64 id,.int .i64 ca,.int .i64 ep,.int .u64 nn,.int .i64 e] 92)=x1:=⟨_,rfl⟩
 obtain ⟨s1,m1,b1⟩:=bQ hx1 rfl;have X1:=Hd (And.intro m1 b1)
 obtain ⟨q0,q1,q2,q3,q4⟩:x1.cell? ⟨w.heap.size,0,none⟩=some (.int .i64 id)∧x1.cell? ⟨w.heap.size,1,none⟩=some (.int .i64 ca)∧x1.cell? ⟨w.heap.size,2,none⟩=some (.int .i64 ep)∧x1.cell? ⟨w.heap.size,3,none⟩=some (.int .u64 nn)∧x1.cell? ⟨w.heap.size,4,none⟩=some (.int .i64 e):=by
  refine ⟨?_,?_,?_,?_,?_⟩ <;> (rw [cob m1]; rfl)
 clear s1 m1 b1
 cases hl:eG ca
 ·have LI:=Hd (fun w=>jU id ca ep nn e w false hl)
  have HL:Hid (eE ca ep=decide (ep≤15)):=Hd (EK hl);clear hl
  by_cases hep:ep≤15
  all_goals
   have HP:=Hd hep;go_enter Tryz.func120,Tryz.ntmps120;go_upto_region 1 with fail
   try rw [hx1]
   clear hx1;go_wp2_with fail;refine (LI.out _).mono ?_;rintro e' w2 ⟨rfl,b2⟩;have HB:=Hd (chain X1.out.2 b2);have m2:=(b2.block w.heap.size (zl X1.out.1)).trans X1.out.1;have k2:=cl m2 2 rfl;clear q0 q1 q2 q3 q4 b2 m2;go_wp2_with fail;go_ret;refine ⟨?_,HB.out⟩;rw [← HV.out,HL.out];have hp:=HP.out;simp [hp]
 ·have LI:=Hd (fun w=>jU id ca ep nn e w true hl)
  have HL:Hid (eE ca ep=false):=Hd (EJ hl);clear hl;go_enter Tryz.func120,Tryz.ntmps120;go_upto_region 1 with fail
  try rw [hx1]
  clear hx1;go_wp2_with fail;refine (LI.out _).mono ?_;rintro e' w2 ⟨rfl,b2⟩;have HB:=Hd (chain X1.out.2 b2);clear q0 q1 q2 q3 q4 b2;go_wp2_with fail;go_ret;exact ⟨by rw [← HV.out,HL.out]; rfl,HB.out⟩
def pP (x:Int × Int × Int × Int):List Value:=[.int .i64 x.1,.int .i64 x.2.1,.int .i64 x.2.2.1,.int .u64 x.2.2.2,.int .i64 0]
def gS (L:List (Int × Int × Int × Int)):List Value:=(L.map pP).flatten
theorem vC:∀ (L:List (Int × Int × Int × Int)) (i:Nat) (x:Int × Int × Int × Int) (q:Nat),L[i]?=some x→q < 5→(gS L)[i * 5 + q]?=(pP x)[q]?
 | [],i,x,q,h,_=>by simp at h
 | y :: L,0,x,q,h,hq=>by
  simp at h;subst h;unfold gS;rw [List.map_cons,List.flatten_cons,Nat.zero_mul,Nat.zero_add,List.getElem?_append_left (by simpa [pP] using hq)]
 | y :: L,i + 1,x,q,h,hq=>by
  have h1:=vC L i x q (by simpa using h) hq;unfold gS at h1 ⊢;rw [List.map_cons,List.flatten_cons,List.getElem?_append_right (by simp [pP]; omega),← h1]
  congr 1
  simp [pP];omega
theorem rR:∀ (L:List (Int × Int × Int × Int)) (i:Nat) (x:Int × Int × Int × Int),i < L.length→(((((gS L).set (i * 5) (.int .i64 x.1)).set (i * 5 + 1) (.int .i64 x.2.1)).set (i * 5 + 2) (.int .i64 x.2.2.1)).set (i * 5 + 3) (.int .u64 x.2.2.2)).set (i * 5 + 4) (.int .i64 0)=gS (L.set i x)
 | [],i,x,h=>by simp at h
 | y :: L,0,x,h=>by simp [gS,pP]
 | y :: L,i + 1,x,h=>by
  have h1:=rR L i x (by simpa using h);have e:gS (y :: L)=pP y ++ gS L:=by simp [gS]
  have e2:gS ((y :: L).set (i + 1) x)=pP y ++ gS (L.set i x):=by simp [gS]
  rw [e,e2,← h1];simp only [pP,List.cons_append,List.nil_append,show (i + 1) * 5=i * 5 + 1 + 1 + 1 + 1 + 1 by omega,Nat.add_right_comm _ 1,List.set_cons_succ]
def oE (L:List (Int × Int × Int × Int)):Obj:=.cells (gS L).toArray 158
theorem lI {w:World} {a:Nat} {L:List (Int × Int × Int × Int)} (h:w.heap[a]?=some (oE L)) {i:Nat} {x:Int × Int × Int × Int} (hx:L[i]?=some x):w.cell? ⟨a,i * 5,none⟩=some (.int .i64 x.1)∧w.cell? ⟨a,i * 5 + 1,none⟩=some (.int .i64 x.2.1)∧w.cell? ⟨a,i * 5 + 2,none⟩=some (.int .i64 x.2.2.1)∧w.cell? ⟨a,i * 5 + 3,none⟩=some (.int .u64 x.2.2.2)∧w.cell? ⟨a,i * 5 + 4,none⟩=some (.int .i64 0)∧∀ q,w.frozen? ⟨a,q,none⟩=false:=by
 unfold oE at h;have k:=fun q hq=>vC L i x q hx hq
 refine ⟨?_,?_,?_,?_,?_,fun q=>ufb h q⟩
 ·rw [cob h,List.getElem?_toArray]; exact k 0 (by decide)
 ·rw [cob h,List.getElem?_toArray]; exact k 1 (by decide)
 ·rw [cob h,List.getElem?_toArray]; exact k 2 (by decide)
 ·rw [cob h,List.getElem?_toArray]; exact k 3 (by decide)
 ·rw [cob h,List.getElem?_toArray]; exact k 4 (by decide)
theorem EX {w:World} {a:Nat} {L:List (Int × Int × Int × Int)} (h:w.heap[a]?=some (oE L)) {i:Nat} (x:Int × Int × Int × Int) (hi:i < L.length):(((((w.setCell ⟨a,i * 5,none⟩ (.int .i64 x.1)).setCell ⟨a,i * 5 + 1,none⟩ (.int .i64 x.2.1)).setCell ⟨a,i * 5 + 2,none⟩ (.int .i64 x.2.2.1)).setCell ⟨a,i * 5 + 3,none⟩ (.int .u64 x.2.2.2)).setCell ⟨a,i * 5 + 4,none⟩ (.int .i64 0)).heap[a]?=some (oE (L.set i x)):=by
 unfold oE at h ⊢;rw [hss _ _ _ _ _ _ (hss _ _ _ _ _ _ (hss _ _ _ _ _ _ (hss _ _ _ _ _ _ (hss _ _ _ _ _ _ h))))];simp only [List.setIfInBounds_toArray];rw [rR L i x hi]
def fld (e:Ent):Int × Int × Int × Int:=(spB e.1,tsC e.2,tsE e.2,tsN e.2)
def gM (pre:List Ent):List (Int × Int × Int × Int):=(0,0,0,0) :: (pre.map fld ++ List.replicate (200 - pre.length) (0,0,0,0))
theorem EZ {pre:List Ent} (h:pre.length≤200):(gM pre).length=201:=by simp [gM]; omega
theorem zB {pre:List Ent} (x:Ent) (h:pre.length < 200):gM (pre ++ [x])=(gM pre).set (pre.length + 1) (fld x):=by
 unfold gM;rw [List.set_cons_succ,List.map_append,List.append_assoc,List.length_append,List.set_append_right _ _ (by simp)]
 congr 2
 obtain ⟨k,hk⟩:∃ k,200 - pre.length=k + 1:=⟨200 - pre.length - 1,by omega⟩
 rw [hk,show 200 - (pre.length + [x].length)=k by simp; omega];simp [List.replicate_succ]
theorem LH {pre:List Ent} {i:Nat} {e:Ent} (h:pre[i]?=some e):(gM pre)[i + 1]?=some (fld e):=by
 have hi:=(List.getElem?_eq_some_iff.1 h).1;unfold gM;rw [List.getElem?_cons_succ,List.getElem?_append_left (by simpa using hi),List.getElem?_map,h]
 rfl
theorem EY {pre:List Ent} {i:Nat} (h:pre.length≤i) (h2:i < 200):(gM pre)[i + 1]?=some (0,0,0,0):=by
 unfold gM;rw [List.getElem?_cons_succ,List.getElem?_append_right (by simpa using h)];rw [List.getElem?_replicate,if_pos (by simp; omega)]
theorem BY:Tryz.zeroCells158=(gS (gM [])).toArray:=by kernel_rfl
theorem EW:(.cells Tryz.zeroCells158 158:Obj)=oE (gM []):=by
 unfold oE;rw [BY]
def fI (nc:Int) (e:Ent):Bool:=bX (tsC e.2) (tsN e.2) nc
def eM (Ys:List Ent) (i:Nat):Int × Int × Int × Int:=match Ys[i]? with
 | some e=>fld e
 | none=>((i:Int) + 1,0,1,0)
def dD (Ys:List Ent) (i:Nat):Bool:=eE (eM Ys i).2.1 (eM Ys i).2.2.1
def LeastR (Ys:List Ent) (nc:Int) (vs:Array Value):Prop:=((∃ e∈Ys,fI nc e=true)∧vs=#[.int .i64 0,.int .i64 0,.int .i64 0,.int .u64 0,.int .i64 13]) ∨
 ((∀ e∈Ys,fI nc e=false)∧((∃ i,i < 200∧(∀ j,j < i→dD Ys j=false)∧dD Ys i=true∧vs=(pP (eM Ys i)).toArray)∨((∀ j,j < 200→dD Ys j=false)∧vs=#[.int .i64 0,.int .i64 0,.int .i64 0,.int .u64 0,.int .i64 4])))
theorem dF {w:World} {g:Nat} {v0 v1 v2 v3 v4:Value} {t:TypeId} {fr:Nat × Nat} (h:w.heap[g]?=some (.cells #[v0,v1,v2,v3,v4] t fr)):(w.cell? ⟨g,0,none⟩=some v0∧w.cell? ⟨g,1,none⟩=some v1∧w.cell? ⟨g,2,none⟩=some v2∧w.cell? ⟨g,3,none⟩=some v3∧w.cell? ⟨g,4,none⟩=some v4):=by
 refine ⟨?_,?_,?_,?_,?_⟩ <;> (rw [cob h]; rfl)
theorem OB {w:World} {g:Nat} {v0 v1 v2 v3 v4:Value} {t:TypeId} (h:w.heap[g]?=some (.cells #[v0,v1,v2,v3,v4] t)) (u0 u1 u2 u3 u4:Value):(((((w.setCell ⟨g,0,none⟩ u0).setCell ⟨g,1,none⟩ u1).setCell ⟨g,2,none⟩ u2).setCell ⟨g,3,none⟩ u3).setCell ⟨g,4,none⟩ u4).heap[g]?=some (.cells #[u0,u1,u2,u3,u4] t)∧Frm (fun k=>k=g) w (((((w.setCell ⟨g,0,none⟩ u0).setCell ⟨g,1,none⟩ u1).setCell ⟨g,2,none⟩ u2).setCell ⟨g,3,none⟩ u3).setCell ⟨g,4,none⟩ u4):=by
 refine ⟨?_,((((((Frm.refl (fun k=>k=g) w).setCell ⟨g,0,none⟩ _ (.inl rfl)).setCell ⟨g,1,none⟩ _ (.inl rfl)).setCell ⟨g,2,none⟩ _ (.inl rfl)).setCell ⟨g,3,none⟩ _ (.inl rfl)).setCell ⟨g,4,none⟩ _ (.inl rfl))⟩;rw [hss _ _ 4 _ _ _ (hss _ _ 3 _ _ _ (hss _ _ 2 _ _ _ (hss _ _ 1 _ _ _ (hss _ _ 0 _ _ _ h))))]
 rfl
theorem fZ {P:Program} {fn:Func} {p:Tmp} {ty:TypeId} (h:fn.results=#[.cell p ty]) (tmps:Array Value) (w:World) (g:Nat) (t:TypeId) (cs:Array Value) (fr:Nat × Nat) (d:TypeDesc)
  (hp:tmps.getD p undef=.pointer (some ⟨g,0,none⟩)) (hg:w.heap[g]?=some (.cells cs t fr))
  (hu:P.underlying ty=some d) (hd:(match d with | .struct _ | .array _ _=>true | _=>false)=true) (hi:(P.info? ty).map (·.size)=some cs.size) :
  (results fn tmps).run P w=.ok (.agg cs) w:=by
 have e:(results fn tmps).run P w=((asAddr (tmps.getD p undef)).run P w).andThen fun a w₁=>((loadVar ty a).run P w₁).andThen fun v w₂=>.ok v w₂:=by
  simp only [results,h];simp [Sem.run_bind,Result.andThen];generalize Sem.run P (asAddr (tmps[p]?.getD undef)) w=r
  cases r with
  | ok a w1 =>
   dsimp only
   generalize Sem.run P (loadVar ty a) w1=r2
   cases r2 <;> rfl
  | halt x w1=>rfl
 rw [e,hp];simp [asAddr,run_loadVar_row w g t ty cs fr d hg hu hd hi,Result.andThen]
theorem iR:(Tryz.prog.info? 92).map (·.size)=some 5:=by kernel_rfl
def LsI (bx r4 a5:Nat) (nc:Int) (pre:List Ent) (D:Nat→Prop) (W:World):Prop:=(∀ k,D k ↔ k=a5∨k=r4∨k=bx)∧W.heap[a5]?=some (oE (gM pre))∧W.heap[r4]?=some (.cells #[.int .i64 0,.int .i64 0,.int .i64 0,.int .u64 0,.int .i64 0] 92)∧W.heap[bx]?=some (.cells #[.int .u64 nc] 30)∧∀ e∈pre,fI nc e=false
def LsX (bx r4 a5:Nat) (nc:Int) (pre:List Ent) (D:Nat→Prop) (W:World):Prop:=(∀ k,D k ↔ k=a5∨k=r4∨k=bx)∧W.heap[r4]?=some (.cells #[.int .i64 0,.int .i64 0,.int .i64 0,.int .u64 0,.int .i64 13] 92)∧(∀ k,D k→k < W.heap.size)∧∃ e∈pre,fI nc e=true
theorem LsI.on {bx r4 a5:Nat} {nc:Int} (pre:List Ent) (D:Nat→Prop) (A B:World) (h:LsI bx r4 a5 nc pre D A) (ho:OnC D A B):LsI bx r4 a5 nc pre D B:=by
 obtain ⟨h1,h2,h3,h4,h5⟩:=h;have hl:∀ {k:Nat} {ob:Obj},A.heap[k]?=some ob→k < A.heap.size:=fun h=>(zl h)
 exact ⟨h1,(ho.block _ (hl h2) ((h1 _).2 (.inl rfl))).trans h2,(ho.block _ (hl h3) ((h1 _).2 (.inr (.inl rfl)))).trans h3,(ho.block _ (hl h4) ((h1 _).2 (.inr (.inr rfl)))).trans h4,h5⟩
theorem LsI.lt {bx r4 a5:Nat} {nc:Int} (pre:List Ent) (D:Nat→Prop) (A:World) (h:LsI bx r4 a5 nc pre D A) (k:Nat) (hk:D k):k < A.heap.size:=by
 obtain ⟨h1,h2,h3,h4,h5⟩:=h
 rcases (h1 k).1 hk with rfl | rfl | rfl
 ·exact (zl h2)
 ·exact (zl h3)
 ·exact (zl h4)
theorem LsX.on {bx r4 a5:Nat} {nc:Int} (pre:List Ent) (D:Nat→Prop) (A B:World) (h:LsX bx r4 a5 nc pre D A) (ho:OnC D A B):LsX bx r4 a5 nc pre D B:=by
 obtain ⟨h1,h2,h3,h4⟩:=h;exact ⟨h1,(ho.block _ (zl h2) ((h1 _).2 (.inr (.inl rfl)))).trans h2,fun k hk=>Nat.lt_of_lt_of_le (h3 k hk) ho.size,h4⟩
section
attribute [local go_sem] Oper.semAt_some
theorem DI {w0 w:World} {F:Nat→Prop} {t d s n:Nat} {E:List Ent} {nc:Int} (h:TxF w0 F w t d s n E) (hE:E.length≤600) (hS:mZ E) (hK:∀ e∈E,0≤e.1∧e.1≤18446744073709551615)
  (hok:∀ e∈gJ E,kU (spB e.1) e.2=true) (hid:∀ (i:Nat) (e:Ent),(gJ E)[i]?=some e→spB e.1=(i:Int) + 1) (hm:(gJ E).length≤200) :
  Calls Tryz.prog 53 #[.pointer (some ⟨t,0,none⟩),.int .u64 nc] w fun e w' => ∃ vs,e=.returned (.agg vs)∧LeastR (gJ E) nc vs∧TxF w0 F w' t d s n E∧Frm (fun k=>F k∨k=t) w w' := by
 obtain ⟨bx,hbx⟩:∃ bx,w.heap.size=bx:=⟨_,rfl⟩
 obtain ⟨x1,hx1⟩:∃ x,w.alloc (.cells #[.int .u64 nc] 30)=x:=⟨_,rfl⟩
 obtain ⟨x2,hx2⟩:∃ x,x1.alloc (.cells #[.int .i64 0,.int .i64 0,.int .i64 0,.int .u64 0,.int .i64 0] 92)=x:=⟨_,rfl⟩
 obtain ⟨x3,hx3⟩:∃ x,x2.alloc (.cells Tryz.zeroCells158 158)=x:=⟨_,rfl⟩
 obtain ⟨s1,m1,b1⟩:=bQ hx1 hbx;obtain ⟨s2,m2,b2⟩:=bQ hx2 s1;obtain ⟨s3,m3,b3⟩:=bQ hx3 s2;rw [EW] at m3;have b13:Below w.heap.size w x3:=(b1.trans (b2.mono (by omega))).trans (b3.mono (by omega));have n1:=(b3.block bx (by omega)).trans ((b2.block bx (by omega)).trans m1);have n2:=(b3.block (bx + 1) (by omega)).trans m2;have hT3:=h.below b13;obtain ⟨Ys,hYs⟩:∃ Ys,gJ E=Ys:=⟨_,rfl⟩
 rw [hYs] at hok hid hm ⊢;have HYS:=Hd hYs;clear hYs;have lW:=h.lt;have f0:=h.from.size;have HSK:=Hd (And.intro hS (And.intro hK hE));have HOK:=Hd (And.intro hok (And.intro hid hm));have HB:=Hd (And.intro s3 (And.intro m3 (And.intro n2 (And.intro n1 b13))));have HX:=Hd (And.intro hx1 (And.intro hx2 hx3));have HT3:=Hd hT3;have HW:=Hd (And.intro lW (And.intro f0 hbx));have HFR:=Hd h.from;have SZ:=Hd (And.intro s1 s2);clear h hE hS hK hok hid hm hx1 hx2 hx3 s1 s2 s3 m1 m2 m3 b1 b2 b3 b13 n1 n2 hT3 lW f0
 refine (callsIn_wide (n:=0)).1 (callsIn_of_wp_marks (F:=Fence.wide) (n:=0) Tryz.func53 rfl trivial (wpIn_wide.2 ?_) rfl);simp only [Tryz.ntmps53,List.size_toArray,List.length_cons,List.length_nil,Nat.reduceAdd,Nat.reduceSub,Array.replicate_succ,Array.replicate_zero,List.push_toArray,List.append_toArray,List.nil_append,List.cons_append];go_upto_region 2 with fail
 try rw [HX.out.1,HX.out.2.1,HX.out.2.2]
 try rw [hbx]
 clear hbx;go_wp2_with fail;refine (kW _ t).mono ?_;rintro e w4 ⟨rfl,m4,q4,s4⟩;rw [HB.out.1] at m4 q4 s4 ⊢;go_wp2_with fail;have hb:=HB.out;have hw:=HW.out;have hT4:=HT3.out.below (by rw [hb.1]; exact q4);have lF:=hT4.lt;have hit:=kV hT4 HSK.out.2.2 HSK.out.1 HSK.out.2.1 m4 (by rw [HYS.out]; exact HOK.out.1);rw [HYS.out] at hit;have hok:=HOK.out
 have i4:LsI bx (bx + 1) (bx + 1 + 1) nc [] (fun k=>k=bx + 1 + 1∨k=bx + 1∨k=bx) w4:=⟨fun _=>Iff.rfl,(q4.block _ (by omega)).trans hb.2.1,(q4.block _ (by omega)).trans hb.2.2.1,(q4.block _ (by omega)).trans hb.2.2.2.1,fun e he=>by cases he⟩
 have f14:Frm (fun _=>False) w w4:=(Frm.of_below hb.2.2.2.2).trans (G:=fun _=>False) (Frm.of_below (by rw [hb.1]; exact q4)) fun _ h=>h.elim
 have AFT:∀ Wz,Frm (fun k=>(k=bx + 1 + 1∨k=bx + 1∨k=bx)∨GS w0 F t (bx + 1 + 1 + 1) k) w4 Wz→TxF w0 F Wz t d s n E→Frm (fun k=>F k∨k=t) w Wz:=by
  intro Wz hfr hV
  have f1:Frm (fun k=>(F k∨k=t)∨k < w0.heap.size) w Wz:=(f14.mono fun _ h=>h.elim).trans hfr fun k hk=>by
   rcases hk with (rfl | rfl | rfl) | (hk | rfl | rfl | hk)
   ·exact .inr (by omega)
   ·exact .inr (by omega)
   ·exact .inr (by omega)
   ·exact .inl (.inl (.inl hk))
   ·exact .inl (.inl (.inr rfl))
   ·exact .inr (by omega)
   ·exact .inl (.inr hk)
  refine ⟨f1.os,f1.tape,f1.output,f1.size,fun k hk hn=>?_⟩
  by_cases hkw:k < w0.heap.size
  ·exact (hV.from.block k hkw).trans (HFR.out.block k hkw).symm
  ·exact f1.block k hk fun e=>e.elim hn hkw
 refine (wpIn_wide (n:=0)).1 (lC rfl (enters_of Tryz.func118 (by kernel_rfl) rfl) hit (fun Wz lz o hz hv=>?_) (fun k hk=>?_) (by intro _; rfl) (fun k=>k=bx + 1 + 1∨k=bx + 1∨k=bx) (fun k hk hg=>?_) (LsI bx (bx + 1) (bx + 1 + 1) nc) (fun c pre D Wz=>c=.ret∧LsX bx (bx + 1) (bx + 1 + 1) nc pre D Wz) LsI.on (fun c s D A B hh ho=>⟨hh.1,LsX.on s D A B hh.2 ho⟩) LsI.lt (fun c s D A hh=>hh.2.2.2.1) i4 ?_ ?_ ?_)
 ·exact hv.frm (bH Wz lz o) fun k hk=>by subst hk; exact ⟨fun e=>by have:=lF.1 _ e; omega,by omega,by have:=hT4.from.size; omega⟩
 ·rcases hk with hk | rfl | rfl | hk
  ·exact lF.1 _ hk
  ·exact lF.2.1
  ·omega
  ·have:=hT4.from.size; omega
 ·have hF:∀ j,F j→j < bx:=fun j hj=>by have:=hw.1.1 j hj; omega
  rcases hg with hg | hg | hg | hg
  ·have:=hF _ hg; omega
  ·have:=hw.1.2.1; omega
  ·omega
  ·have:=hw.2.1; omega
 ·intro l' pre x D Wz hpre hI hD hz hnl hll
  obtain ⟨xk,xv⟩:=x
  have hx:Ys[pre.length]?=some (xk,xv):=by
   obtain ⟨r,hr⟩:=hpre;rw [← hr];simp
  obtain ⟨q,hq⟩:∃ q:Nat,q=pre.length + 1:=⟨_,rfl⟩
  have hxq:spB xk=(q:Int):=by rw [hok.2.1 _ _ hx]; omega
  have hpl:pre.length < 200:=by have:=(List.getElem?_eq_some_iff.1 hx).1; omega
  have HQ:Hid (q=pre.length + 1∧pre.length < 200∧fld (xk,xv)=((q:Int),tsC xv,tsE xv,tsN xv)):=Hd ⟨hq,hpl,by unfold fld; rw [hxq]⟩;unfold MO;simp only [hxq];have hql:(q:Int) < 201:=by omega
  have hq0:(0:Int)≤(q:Int):=Int.natCast_nonneg q;clear hx hq hxq hpl;gi_wp2;obtain ⟨Wa,hWa⟩:∃ Wa,Wz.alloc (.cells #[.int .i64 (q:Int),.int .i64 (tsC xv),.int .i64 (tsE xv),.int .u64 (tsN xv),.int .i64 0] 92)=Wa:=⟨_,rfl⟩
  obtain ⟨sa,ma,ba⟩:=bQ hWa rfl;rw [hWa];refine ⟨ba,fun Wb hfb hIb=>?_⟩;have mb:=(hfb.block _ (zl ma) (by omega)).trans ma;obtain ⟨z0,z1,z2,z3,z4⟩:=dF mb;have HI:=Hd hIb;have HMB:=Hd mb;obtain ⟨i1,i2,i3,i6,i7⟩:=hIb;have kn:=(aJ i6).1;obtain ⟨by_,hby⟩:∃ b,bX (tsC xv) (tsN xv) nc=b:=⟨_,rfl⟩
  have BE:=Hd (fun w=>sJ (q:Int) (tsC xv) (tsE xv) (tsN xv) 0 nc w by_ hby);have HBY:=Hd hby;clear sa ma ba hWa hfb mb i1 i2 i3 i6 i7 hby
  gi_wp2_with fail
  refine ⟨trivial,rfl,?_⟩;refine (CallsIn.inRound l' (callsIn_wide.2 (BE.out _))).mono ?_;rintro e w8 ⟨rfl,b8⟩;have I8:=LsI.on _ _ _ _ HI.out (.of_frm (G:=fun _=>False) (Frm.of_below b8) fun _ _ h=>h);have mx8:=(b8.block _ (zl HMB.out)).trans HMB.out;have HI8:=Hd I8;have HB8:=Hd b8;obtain ⟨i1,i2,i3,i6,i7⟩:=I8;clear z0 z1 z2 z3 z4 kn b8
  cases by_
  ·obtain ⟨z0,z1,z2,z3,z4⟩:=dF mx8
   have hL:=EZ (Nat.le_of_lt HQ.out.2.1);obtain ⟨y,hy⟩:∃ y,(gM pre)[q]?=some y:=⟨_,List.getElem?_eq_getElem (by have:=HQ.out; omega)⟩
   obtain ⟨y0,y1,y2,y3,y4,yf⟩:=lI i2 hy;have yf0:=yf (q * 5);have yf1:=yf (q * 5 + 1);have yf2:=yf (q * 5 + 2);have yf3:=yf (q * 5 + 3);have yf4:=yf (q * 5 + 4);have ST0:=EX i2 ((q:Int),tsC xv,tsE xv,tsN xv) (i:=q) (by have:=HQ.out; omega)
   dsimp only at ST0
   have ST:=Hd ST0;clear ST0;clear i1 i2 i3 i6 i7 mx8 hL hy yf
   gi_wp2_with fail
   obtain ⟨Wn,hWn⟩:∃ Wn,(((((w8.setCell ⟨bx + 1 + 1,q * 5,none⟩ (.int .i64 (q:Int))).setCell ⟨bx + 1 + 1,q * 5 + 1,none⟩ (.int .i64 (tsC xv))).setCell ⟨bx + 1 + 1,q * 5 + 2,none⟩ (.int .i64 (tsE xv))).setCell ⟨bx + 1 + 1,q * 5 + 3,none⟩ (.int .u64 (tsN xv))).setCell ⟨bx + 1 + 1,q * 5 + 4,none⟩ (.int .i64 0))=Wn:=⟨_,rfl⟩
   have fn:Frm (fun k=>k=bx + 1 + 1) w8 Wn:=by rw [← hWn]; exact ((((((Frm.refl (fun k=>k=bx + 1 + 1) w8).setCell ⟨bx + 1 + 1,q * 5,none⟩ _ (.inl rfl)).setCell ⟨bx + 1 + 1,q * 5 + 1,none⟩ _ (.inl rfl)).setCell ⟨bx + 1 + 1,q * 5 + 2,none⟩ _ (.inl rfl)).setCell ⟨bx + 1 + 1,q * 5 + 3,none⟩ _ (.inl rfl)).setCell ⟨bx + 1 + 1,q * 5 + 4,none⟩ _ (.inl rfl))
   have sn:=ST.out;rw [hWn] at sn ⊢;obtain ⟨i1,i2,i3,i6,i7⟩:=HI8.out;refine ⟨D,⟨((Frm.of_below (F:=fun _=>False) HB8.out).mono fun _ h=>h.elim).trans fn fun k hk=>.inl ((i1 k).2 (.inl hk)),fun k hk=>.inl hk⟩,i1,?_,(fn.block _ (zl i3) (by omega)).trans i3,(fn.block _ (zl i6) (by omega)).trans i6,fun e he=>?_⟩
   ·rw [zB _ HQ.out.2.1,HQ.out.2.2,← HQ.out.1]
    exact sn
   ·rcases List.mem_append.1 he with he | he
    ·exact i7 e he
    ·obtain rfl:=List.mem_singleton.1 he
     exact HBY.out
  ·obtain ⟨z0,z1,z2,z3,z4⟩:=dF i3
   have g0:=ufb i3 0;have g1:=ufb i3 1;have g2:=ufb i3 2;have g3:=ufb i3 3;have g4:=ufb i3 4;obtain ⟨hs1,hs2⟩:=OB i3 (.int .i64 0) (.int .i64 0) (.int .i64 0) (.int .u64 0) (.int .i64 13);have HS:=Hd (And.intro hs1 hs2);have HL:=Hd (LsI.lt _ _ _ HI8.out);clear i1 i2 i3 i6 i7 mx8 hs1 hs2
   gi_wp2_with fail
   refine ⟨D,⟨((Frm.of_below (F:=fun _=>False) HB8.out).mono fun _ h=>h.elim).trans HS.out.2 fun k hk=>.inl ((HI8.out.1 k).2 (.inr (.inl hk))),fun k hk=>.inl hk⟩,rfl,HI8.out.1,HS.out.1,fun k hk=>Nat.lt_of_lt_of_le (HL.out k hk) HS.out.2.size,(xk,xv),by simp,HBY.out⟩
 ·intro D C' Wz hDz hI hV hfr hC' hnD hdef
  obtain ⟨j1,j2,j3,j6,j7⟩:=hI;have KA:=Hd j2;have RZ:=Hd j3;have NB:=Hd j7;have FR:=Hd (AFT Wz hfr hV);have HV:=Hd hV;have r4w:bx + 1 < w4.heap.size:=by omega
  have DD:Hid (w4.heap.size≤D∧bx + 1 < w4.heap.size):=Hd ⟨hDz,r4w⟩;have HDF:=Hd hdef
  have MKS:∀ (Wa Wb:World),Below Wz.heap.size Wz Wa→Frm (fun k=>k=bx + 1) Wa Wb→Marks Wb [D]:=fun Wa Wb ha hb' => by
   have hd:=(zl HDF.out);refine (Marks.nil Wb).cons (by simp) ?_;rw [hb'.block D (Nat.lt_of_lt_of_le hd ha.size) (by have:=DD.out; omega),ha.block D hd];exact HDF.out
  have FINZ:∀ (Wa Wb W' : World),Below Wz.heap.size Wz Wa→Frm (fun k=>k=bx + 1) Wa Wb→Frm (fun k=>k∈[D]) Wb W'→TxF w0 F W' t d s n E∧Frm (fun k=>F k∨k=t) w W' := fun Wa Wb W' ha hb' hc=>by
   have hz:=DD.out
   have h1:=((HV.out.below ha).frm hb' fun k hk=>by subst hk; exact ⟨fun e=>by have:=hw.1.1 _ e; omega,by omega,by omega⟩).frm hc fun k hk=>by
    obtain rfl:=List.mem_singleton.1 hk;exact ⟨fun e=>by have:=lF.1 _ e; omega,by have:=lF.2.1; omega,by have:=hT4.from.size; omega⟩
   refine ⟨h1,((FR.out.trans (G:=fun _=>False) (Frm.of_below ha) fun _ h=>h.elim).trans hb' fun k hk=>.inr (by omega)).trans hc fun k hk=>.inr ?_⟩;obtain rfl:=List.mem_singleton.1 hk;have:=f14.size;omega
  have MK:=Hd MKS;have FZ:=Hd FINZ;have HOKK:=Hd hok;clear hit hfr hC' hnD hdef j1 j2 j3 j6 j7 hV AFT i4 f14 lF hT4 hb hw r4w hok hDz MKS FINZ;have MKS:=MK;go_wp2_with fail
  go_loopw [7] (fun i wr=>∃ q:Nat,i=.int .i64 (q:Int)∧1≤q∧q≤201∧Hid (∀ r,r + 1 < q→dD Ys r=false)∧Hid (Below Wz.heap.size Wz wr)) (fun i _=>202 - (intOf i).toNat)
  case atStart=>exact ⟨1,rfl,Nat.le_refl _,by decide,Hd fun r hr=>by omega,Hd Br⟩
  case round =>
   obtain ⟨q,rfl,hq1,hq201,HO,HBw⟩:=hrel
   by_cases hq200:q≤200
   ·have hli:(q:Int)≤200:=by omega
    obtain ⟨r,hqr⟩:∃ r,q=r + 1:=⟨q - 1,by omega⟩
    cases hy:Ys[r]? with
    | none =>
     have hx:(gM Ys)[q]?=some (0,0,0,0):=by
      rw [hqr];exact EY (List.getElem?_eq_none_iff.1 hy) (by omega)
     have SA:Hid (eM Ys r=((q:Int),0,1,0)):=Hd (by
      unfold eM;rw [hy,hqr]
      rfl)
     obtain ⟨y0,y1,y2,y3,y4,_⟩:=lI ((HBw.out.block _ (zl KA.out)).trans KA.out) hx;have hqz:((q:Int) == 0)=false:=by simp; omega
     have hqi:(q:Int) < 201:=by omega
     have hq0:(0:Int)≤(q:Int):=Int.natCast_nonneg q;have HQR:Hid (q=r + 1∧q≤200):=Hd ⟨hqr,hq200⟩;have e4:IntKind.i64.wrap ((q:Int) + 1)=((q + 1:Nat):Int):=by rw [show (q:Int) + 1=((q + 1:Nat):Int) by omega]; exact IntWalk.i64_in _ (by omega)
     obtain ⟨ob,hob⟩:∃ ob,eE 0 1=ob:=⟨_,rfl⟩
     have OPN:=Hd (fun w=>wK (q:Int) 0 1 0 0 w ob hob);have HOB:=Hd hob;have R4:=Hd ((HBw.out.block _ (zl RZ.out)).trans RZ.out);clear hx hy hqr hob hq1 hq201 hq200;go_wp2_with fail;refine (OPN.out _).mono ?_;rintro e w6 ⟨rfl,b6⟩;obtain ⟨w5,hw5⟩:∃ w5,wr.alloc (.cells #[.int .i64 (q:Int),.int .i64 0,.int .i64 1,.int .u64 0,.int .i64 0] 92)=w5:=⟨_,rfl⟩
     rw [hw5] at b6;obtain ⟨s5,m5,b5⟩:=bQ hw5 rfl;have m6:=(b6.block _ (by omega)).trans m5;have r6:=(b6.block _ (by have:=(zl R4.out); omega)).trans ((b5.block _ (zl R4.out)).trans R4.out);have HB6:=Hd (HBw.out.trans ((b5.trans (b6.mono b5.size)).mono HBw.out.size));have HR6:=Hd r6;clear y0 y1 y2 y3 y4 s5 m5 b5 b6 hw5 OPN R4
     cases ob
     ·clear m6 r6
      go_wp2_with fail;go_roundw
      case rel=>exact ⟨q + 1,rfl,by omega,by have:=HQR.out; omega,Hd fun j hj=>(by
       rcases Nat.lt_or_ge (j + 1) q with h9 | h9
       ·exact HO.out j h9
       ·have e9:j=r:=by have:=HQR.out; omega
        subst e9;unfold dD;rw [SA.out];exact HOB.out),HB6⟩
      case measure=>have:=HQR.out; simp [intOf]; omega
     ·obtain ⟨z0,z1,z2,z3,z4⟩:=dF m6
      obtain ⟨g0,g1,g2,g3,g4⟩:=dF r6;have u0:=ufb r6 0;have u1:=ufb r6 1;have u2:=ufb r6 2;have u3:=ufb r6 3;have u4:=ufb r6 4;obtain ⟨hs1,hs2⟩:=OB r6 (.int .i64 (q:Int)) (.int .i64 0) (.int .i64 1) (.int .u64 0) (.int .i64 0);have HS:=Hd (And.intro hs1 hs2);clear m6 r6 hs1 hs2;go_wp2_with fail;refine eJ [D] _ (MKS.out _ _ HB6.out HS.out.2) fun W' hm=>?_
      have hr:=(hm.block _ (zl HS.out.1) (by have:=DD.out; simp; omega)).trans HS.out.1;refine ⟨_,fZ (fn:=Tryz.f53) rfl _ W' (bx + 1) 92 _ (0,0) _ rfl hr Tryz.underlying92 rfl iR,_,rfl,.inr ⟨NB.out,.inl ⟨r,by have:=HQR.out; omega,fun j hj=>HO.out j (by have:=HQR.out; omega),?_,?_⟩⟩,?_⟩
      ·unfold dD; rw [SA.out]; exact HOB.out
      ·rw [SA.out]; rfl
      ·exact FZ.out _ _ _ HB6.out HS.out.2 hm
    | some e =>
     obtain ⟨ek,ev⟩:=e
     have hx:(gM Ys)[q]?=some ((q:Int),tsC ev,tsE ev,tsN ev):=by
      rw [hqr,LH hy];unfold fld;rw [HOKK.out.2.1 _ _ hy]
      rfl
     have SA:Hid (eM Ys r=((q:Int),tsC ev,tsE ev,tsN ev)):=Hd (by
      unfold eM;rw [hy]
      show fld (ek,ev)=_
      unfold fld;rw [HOKK.out.2.1 _ _ hy,hqr]
      rfl)
     obtain ⟨y0,y1,y2,y3,y4,_⟩:=lI ((HBw.out.block _ (zl KA.out)).trans KA.out) hx;have hqz:((q:Int) == 0)=false:=by simp; omega
     have hqi:(q:Int) < 201:=by omega
     have hq0:(0:Int)≤(q:Int):=Int.natCast_nonneg q;have HQR:Hid (q=r + 1∧q≤200):=Hd ⟨hqr,hq200⟩;have e4:IntKind.i64.wrap ((q:Int) + 1)=((q + 1:Nat):Int):=by rw [show (q:Int) + 1=((q + 1:Nat):Int) by omega]; exact IntWalk.i64_in _ (by omega)
     obtain ⟨ob,hob⟩:∃ ob,eE (tsC ev) (tsE ev)=ob:=⟨_,rfl⟩
     have OPN:=Hd (fun w=>wK (q:Int) (tsC ev) (tsE ev) (tsN ev) 0 w ob hob);have HOB:=Hd hob;have R4:=Hd ((HBw.out.block _ (zl RZ.out)).trans RZ.out);clear hx hy hqr hob hq1 hq201 hq200;go_wp2_with fail;refine (OPN.out _).mono ?_;rintro e w6 ⟨rfl,b6⟩;obtain ⟨w5,hw5⟩:∃ w5,wr.alloc (.cells #[.int .i64 (q:Int),.int .i64 (tsC ev),.int .i64 (tsE ev),.int .u64 (tsN ev),.int .i64 0] 92)=w5:=⟨_,rfl⟩
     rw [hw5] at b6;obtain ⟨s5,m5,b5⟩:=bQ hw5 rfl;have m6:=(b6.block _ (by omega)).trans m5;have r6:=(b6.block _ (by have:=(zl R4.out); omega)).trans ((b5.block _ (zl R4.out)).trans R4.out);have HB6:=Hd (HBw.out.trans ((b5.trans (b6.mono b5.size)).mono HBw.out.size));have HR6:=Hd r6;clear y0 y1 y2 y3 y4 s5 m5 b5 b6 hw5 OPN R4
     cases ob
     ·clear m6 r6
      go_wp2_with fail;go_roundw
      case rel=>exact ⟨q + 1,rfl,by omega,by have:=HQR.out; omega,Hd fun j hj=>(by
       rcases Nat.lt_or_ge (j + 1) q with h9 | h9
       ·exact HO.out j h9
       ·have e9:j=r:=by have:=HQR.out; omega
        subst e9;unfold dD;rw [SA.out];exact HOB.out),HB6⟩
      case measure=>have:=HQR.out; simp [intOf]; omega
     ·obtain ⟨z0,z1,z2,z3,z4⟩:=dF m6
      obtain ⟨g0,g1,g2,g3,g4⟩:=dF r6;have u0:=ufb r6 0;have u1:=ufb r6 1;have u2:=ufb r6 2;have u3:=ufb r6 3;have u4:=ufb r6 4;obtain ⟨hs1,hs2⟩:=OB r6 (.int .i64 (q:Int)) (.int .i64 (tsC ev)) (.int .i64 (tsE ev)) (.int .u64 (tsN ev)) (.int .i64 0);have HS:=Hd (And.intro hs1 hs2);clear m6 r6 hs1 hs2;go_wp2_with fail;refine eJ [D] _ (MKS.out _ _ HB6.out HS.out.2) fun W' hm=>?_
      have hr:=(hm.block _ (zl HS.out.1) (by have:=DD.out; simp; omega)).trans HS.out.1;refine ⟨_,fZ (fn:=Tryz.f53) rfl _ W' (bx + 1) 92 _ (0,0) _ rfl hr Tryz.underlying92 rfl iR,_,rfl,.inr ⟨NB.out,.inl ⟨r,by have:=HQR.out; omega,fun j hj=>HO.out j (by have:=HQR.out; omega),?_,?_⟩⟩,?_⟩
      ·unfold dD; rw [SA.out]; exact HOB.out
      ·rw [SA.out]; rfl
      ·exact FZ.out _ _ _ HB6.out HS.out.2 hm
   ·have hli:¬ (q:Int)≤200:=by omega
    have HQ9:Hid (q=201):=Hd (by omega);have r6:=(HBw.out.block _ (zl RZ.out)).trans RZ.out;obtain ⟨g0,g1,g2,g3,g4⟩:=dF r6;have u0:=ufb r6 0;have u1:=ufb r6 1;have u2:=ufb r6 2;have u3:=ufb r6 3;have u4:=ufb r6 4;obtain ⟨hs1,hs2⟩:=OB r6 (.int .i64 0) (.int .i64 0) (.int .i64 0) (.int .u64 0) (.int .i64 4);have HS:=Hd (And.intro hs1 hs2);clear hs1 hs2 r6 hq200 hq1 hq201;go_wp2_with fail;refine eJ [D] _ (MKS.out _ _ HBw.out HS.out.2) fun W' hm=>?_
    have hr:=(hm.block _ (zl HS.out.1) (by have:=DD.out; simp; omega)).trans HS.out.1;refine ⟨_,fZ (fn:=Tryz.f53) rfl _ W' (bx + 1) 92 _ (0,0) _ rfl hr Tryz.underlying92 rfl iR,_,rfl,.inr ⟨NB.out,.inr ⟨fun j hj=>HO.out j (by have:=HQ9.out; omega),rfl⟩⟩,?_⟩;exact FZ.out _ _ _ HBw.out HS.out.2 hm
 ·rintro D c pre C' Wz hDz hpre ⟨rfl,j1,j2,j3,j6⟩ hV hfr hC' hnD hdef
  refine wpIn_wide.2 ?_;have FR:=Hd (AFT Wz hfr hV);have HV:=Hd hV;have HP:Hid (∃ e∈Ys,fI nc e=true):=Hd (by obtain ⟨e,h1,h2⟩:=j6; exact ⟨e,hpre.subset h1,h2⟩);have RB:=Hd j2;have HM:Hid (Marks Wz [D]):=Hd ((Marks.nil Wz).cons (by simp) hdef)
  have HFS:Hid (∀ W', Frm (fun k=>k∈[D]) Wz W'→TxF w0 F W' t d s n E∧Frm (fun k=>F k∨k=t) w W'):=Hd fun W' hc=>by
   refine ⟨hV.frm hc fun k hk=>?_,FR.out.trans hc fun k hk=>.inr ?_⟩
   ·obtain rfl:=List.mem_singleton.1 hk
    exact ⟨fun e=>by have:=lF.1 _ e; omega,by have:=lF.2.1; omega,by have:=hT4.from.size; omega⟩
   ·obtain rfl:=List.mem_singleton.1 hk
    have:=f14.size;omega
  have HD:Hid (bx + 1≠D):=Hd (by omega);clear hit hfr hC' hnD hdef j1 j2 j3 j6 hV AFT i4 hpre;go_wp2_with fail;refine eJ [D] _ HM.out fun W' hm=>?_
  have hr:=(hm.block _ (zl RB.out) (by have:=HD.out; simpa using this)).trans RB.out;exact ⟨_,fZ (fn:=Tryz.f53) rfl _ W' (bx + 1) 92 _ (0,0) _ rfl hr Tryz.underlying92 rfl iR,_,rfl,.inl ⟨HP.out,rfl⟩,HFS.out W' hm⟩
end
theorem qO {w0 w:World} {R:List Nat} {t d s n k:Nat} {E E' : List Ent} {caps:Array Value} {e:Int} {Q:World→Prop} (h:TxS w0 R w t d s n E) (hk:∀ w,(callFunc k caps).run Tryz.prog w=.ok (.enter k caps) w)
  (HC:Calls Tryz.prog k caps w fun e' w' => e'=.returned (.int .i64 e)∧TxS w0 R w' t d s n E'∧Q w') :
  Calls Tryz.prog 86 #[.pointer (some ⟨t,0,none⟩),.func (.func k) #[] caps] w fun e' w' => e'=.returned (.int .i64 e)∧TxS w0 R w' t d s n E'∧Q w' := by
 have ER:=Hd (RN h);have H:=Hd HC;clear h HC;go_enter Tryz.func86,Tryz.ntmps86;go_wp2_with fail;refine ER.out.mono ?_;rintro e' w1 ⟨rfl,rfl⟩;clear ER;go_wp2_with fail;refine H.out.mono ?_;rintro e' w2 ⟨rfl,h1,h2⟩;have ER:=Hd (RN h1);have FIN:=Hd (And.intro h1 h2);clear h1 h2 H;go_wp2_with fail;refine ER.out.mono ?_;rintro e' w1 ⟨rfl,rfl⟩;clear ER;go_wp2_with fail;go_ret;exact ⟨rfl,FIN.out⟩
theorem LL {w0 w:World} {R:List Nat} {t d s n b c:Nat} {E E' : List Ent} {k:Nat} {caps:Array Value} {x e:Int} (h:TxS w0 R w t d s n E) (hb:w.heap[b]?=some (.cells #[.func (.func k) #[] caps] 101)) (hc:w.heap[c]?=some (.cells #[.int .i64 0] 3)) (hcR:c∈R) (hct:c≠t) (hc0:w0.heap.size≤c)
  (hk:∀ w,(callFunc k caps).run Tryz.prog w=.ok (.enter k caps) w) (HC:Calls Tryz.prog k caps w fun e' w' => e'=.returned (.tuple #[.int .i64 x,.int .i64 e])∧TxS w0 R w' t d s n E'∧KeptT R t w w') :
  Calls Tryz.prog 122 #[.pointer (some ⟨b,0,none⟩),.pointer (some ⟨c,0,none⟩)] w fun e' w' => e'=.returned (.int .i64 e)∧TxS w0 R w' t d s n E'∧w'.heap[c]?=some (.cells #[.int .i64 x] 3)∧∀ k∈R,k≠t→k≠c→w'.heap[k]?=w.heap[k]?:=by
 have cb:=(aJ hb).1;have H:=Hd HC;have HX:=Hd (And.intro hc (And.intro hcR (And.intro hct hc0)));clear h hb hc hcR hct hc0 HC;go_enter Tryz.func122,Tryz.ntmps122;go_wp2_with fail;refine H.out.mono ?_;rintro e' w1 ⟨rfl,h1,h2⟩;have hc1:=(h2 c HX.out.2.1 HX.out.2.2.1).trans HX.out.1;obtain ⟨c1,g1⟩:=aJ hc1
 have FIN:Hid (TxS w0 R (w1.setCell ⟨c,0,none⟩ (.int .i64 x)) t d s n E'∧(w1.setCell ⟨c,0,none⟩ (.int .i64 x)).heap[c]?=some (.cells #[.int .i64 x] 3)∧∀ k∈R,k≠t→k≠c→(w1.setCell ⟨c,0,none⟩ (.int .i64 x)).heap[k]?=w.heap[k]?):=Hd (by
  have f:=fS (w:=w1) (b:=c) (i:=0) (.int .i64 x);refine ⟨h1.turn HX.out.2.1 HX.out.2.2.1 HX.out.2.2.2 f,?_,fun k hk hn hnc=>(f.block k (h1.lt.1 k hk) hnc).trans (h2 k hk hn)⟩;rw [hss _ _ 0 _ _ _ hc1]; rfl)
 clear h1 h2 hc1 cb;go_wp2_with fail;go_ret;exact ⟨rfl,FIN.out⟩
theorem FJ {w0 w:World} {R:List Nat} {t d s n:Nat} {E E' : List Ent} {k:Nat} {caps:Array Value} {x e y:Int} (h:TxS w0 R w t d s n E) (he:(e=0∧y=x)∨(e≠0∧y=0))
  (hk:∀ w,(callFunc k caps).run Tryz.prog w=.ok (.enter k caps) w) (HC:∀ R' wa,(∀ k∈R,k∈R')→TxS w0 R' wa t d s n E→KeptT R t w wa→Calls Tryz.prog k caps wa fun e' w' => e'=.returned (.tuple #[.int .i64 x,.int .i64 e])∧TxS w0 R' w' t d s n E'∧KeptT R' t wa w') :
  Calls Tryz.prog 55 #[.pointer (some ⟨t,0,none⟩),.func (.func k) #[] caps] w fun e' w' => e'=.returned (.tuple #[.int .i64 y,.int .i64 e])∧TxS w0 R w' t d s n E'∧KeptT R t w w' := by
 obtain ⟨a1,a2,a3,a4,a5,a6,a7⟩:=h.box (.cells #[.func (.func k) #[] caps] 101);obtain ⟨x1,hx1⟩:∃ x1,w.alloc (.cells #[.func (.func k) #[] caps] 101)=x1:=⟨_,rfl⟩
 rw [hx1] at a1 a2 a3 a5;obtain ⟨b1,b2,b3,b4,b5,b6,b7⟩:=a1.box (.cells #[.int .i64 0] 3);obtain ⟨x2,hx2⟩:∃ x2,x1.alloc (.cells #[.int .i64 0] 3)=x2:=⟨_,rfl⟩
 rw [hx2] at b1 b2 b3 b5;rw [a5] at b1 b3 b4 b5 b6 b7;have hbk:=(b2 w.heap.size (by simp) a4).trans a3;have HK:=HC ((w.heap.size + 1) :: w.heap.size :: R) x2 (fun k hk=>by simp [hk]) b1 (a2.trans (b2.sub (fun k hk=>by simp [hk])));have V1:=Hd (qO b1 (fun w=>by kernel_rfl) (LL b1 hbk b3 (by simp) b4 b6 hk HK));have KP:=Hd (And.intro a2 (And.intro b2 (And.intro a7 b7)));have HE:=Hd he;have X1:=Hd hx1;have X2:=Hd hx2;clear h he HC a1 a2 a3 a4 a6 a7 b1 b2 b3 b4 b5 b6 b7 hbk HK hx1 hx2;have A5:=Hd a5;clear a5;go_enter Tryz.func55,Tryz.ntmps55
 go_upto_region 2 with fail
 try simp only [Nat.add_assoc,Nat.reduceAdd,World.heap_size_alloc]
 rw [X1.out,X2.out];go_wp2_with fail;refine V1.out.mono ?_;rintro e' w4 ⟨rfl,h1,h2,h3⟩;have c2:=(aJ h2).1;have FIN:Hid (TxS w0 R w4 t d s n E'∧KeptT R t w w4):=Hd ⟨h1.sub (fun k hk=>by simp [hk]),fun k hk hn=>(h3 k (by simp [hk]) hn (KP.out.2.2.2 k (by simp [hk]))).trans ((KP.out.2.1 k (by simp [hk]) hn).trans (KP.out.1 k hk hn))⟩;clear h1 h2 h3 V1
 rcases HE.out with ⟨rfl,rfl⟩ | ⟨hne,rfl⟩
 ·go_wp2_with fail
  go_ret2;exact ⟨rfl,FIN.out⟩
 ·have hn1:(e == 0)=false:=by simpa using hne
  have hn2:(e != 0)=true:=by simp [hne]
  clear hne;go_wp2_with fail;go_ret2;exact ⟨rfl,FIN.out⟩
theorem RJ {w w' : World} {g:Nat} {o:Obj} (h:w.heap[g]?=some o) (b:Below w.heap.size w w'):w'.heap[g]?=some o:=(b.block g (zl h)).trans h
theorem bV {w:World} {g:Nat} {v0 v1 v2 v3:Value} {t:TypeId} (h:w.heap[g]?=some (.cells #[v0,v1,v2,v3] t)):(w.cell? ⟨g,0,none⟩=some v0∧w.cell? ⟨g,1,none⟩=some v1∧w.cell? ⟨g,2,none⟩=some v2∧w.cell? ⟨g,3,none⟩=some v3)∧w.frozen? ⟨g,0,none⟩=false∧w.frozen? ⟨g,1,none⟩=false∧w.frozen? ⟨g,2,none⟩=false∧w.frozen? ⟨g,3,none⟩=false:=by
 refine ⟨⟨?_,?_,?_,?_⟩,ufb h 0,ufb h 1,ufb h 2,ufb h 3⟩ <;> (rw [cob h]; rfl)
def st4 (w:World) (g:Nat) (u0 u1 u2 u3:Value):World:=(((w.setCell ⟨g,0,none⟩ u0).setCell ⟨g,1,none⟩ u1).setCell ⟨g,2,none⟩ u2).setCell ⟨g,3,none⟩ u3
theorem set4 {w:World} {g:Nat} {v0 v1 v2 v3:Value} {t:TypeId} (h:w.heap[g]?=some (.cells #[v0,v1,v2,v3] t)) (u0 u1 u2 u3:Value):(st4 w g u0 u1 u2 u3).heap[g]?=some (.cells #[u0,u1,u2,u3] t)∧Frm (fun k=>k=g) w (st4 w g u0 u1 u2 u3):=by
 refine ⟨?_,(((((Frm.refl (fun k=>k=g) w).setCell ⟨g,0,none⟩ _ (.inl rfl)).setCell ⟨g,1,none⟩ _ (.inl rfl)).setCell ⟨g,2,none⟩ _ (.inl rfl)).setCell ⟨g,3,none⟩ _ (.inl rfl))⟩;unfold st4;rw [hss _ _ 3 _ _ _ (hss _ _ 2 _ _ _ (hss _ _ 1 _ _ _ (hss _ _ 0 _ _ _ h)))]
 rfl
theorem AP (id q:Int) (w:World) (hq:dZ 4 0 id=q) :
  Calls Tryz.prog 60 #[.int .i64 id] w fun e w' => e=.returned (.int .u64 q)∧w=w' := by
 have HQ:=Hd hq;clear hq;go_enter Tryz.func60,Tryz.ntmps60;go_wp2_with fail;refine (BD _ _ _ _).mono ?_;rw [HQ.out];rintro e w1 ⟨rfl,rfl⟩;go_wp2_with fail;go_ret;exact ⟨rfl,rfl⟩
theorem uV {w0 w:World} {R:List Nat} {t d s:Nat} {E:List Ent} {id ca ep nn q:Int} {X:ByteArray} (h:TxS w0 R w t d s 640 E) (hE:E.length≤300) (hok:bJ id ca ep=true) (h0:0≤nn) (hX:bK ca ep nn=X) (hXs:X.size≤40) (hq:dZ 4 0 id=q) :
  Calls Tryz.prog 54 #[.pointer (some ⟨t,0,none⟩),.agg #[.int .i64 id,.int .i64 ca,.int .i64 ep,.int .u64 nn]] w fun e w' => e=.returned (.tuple #[])∧TxS w0 R w' t d s 640 (bZ q X E)∧KeptT R t w w' := by
 obtain ⟨a1,a2,a3,a4,a5,a6,a7⟩:=h.box (.cells #[.int .i64 id,.int .i64 ca,.int .i64 ep,.int .u64 nn] 32);obtain ⟨x1,hx1⟩:∃ x1,w.alloc (.cells #[.int .i64 id,.int .i64 ca,.int .i64 ep,.int .u64 nn] 32)=x1:=⟨_,rfl⟩
 rw [hx1] at a1 a2 a3 a5;have PT:=Hd (fun w=>by have:=vM id ca ep nn w h0; unfold uX okE at this; rw [hok,if_pos rfl,if_pos rfl,hX] at this; exact this);have KY:=Hd (fun w=>AP id q w hq);have hqr:=BF 4 0 id;rw [hq] at hqr;have HX:=Hd (And.intro hE (And.intro hXs hqr));have HA:=Hd (And.intro a1 (And.intro a2 (And.intro a3 a4)));obtain ⟨⟨k0,k1,k2,k3⟩,_⟩:=bV a3;clear h hE hok h0 hX hXs hq hqr a1 a2 a3 a4 a5 a6 a7;go_enter Tryz.func54,Tryz.ntmps54;go_upto_region 1 with fail
 try rw [hx1]
 clear hx1;go_wp2_with fail;refine (PT.out _).mono ?_;rintro e w2 ⟨rfl,b2⟩;have m2:=RJ HA.out.2.2.1 b2;have T2:=Hd (And.intro (HA.out.1.below b2) (HA.out.1.kept b2));obtain ⟨⟨c0,c1,c2,c3⟩,_⟩:=bV m2;clear k0 k1 k2 k3 m2 b2;go_wp2_with fail;refine (KY.out _).mono ?_;rintro e w3 ⟨rfl,rfl⟩;have PU:=Hd (UO T2.out.1 HX.out.1 HX.out.2.2 HX.out.2.1);clear c0 c1 c2 c3;go_wp2_with fail;refine PU.out.mono ?_;rintro e w3 ⟨rfl,h1,h2⟩
 have FIN:Hid (TxS w0 R w3 t d s 640 (bZ q X E)∧KeptT R t w w3):=Hd ⟨h1.sub (fun k hk=>by simp [hk]),HA.out.2.1.trans ((T2.out.2.sub (fun k hk=>by simp [hk])).trans (h2.sub (fun k hk=>by simp [hk])))⟩;clear h1 h2 PU;go_wp2_with fail
 go_end0
 exact ⟨rfl,FIN.out⟩
theorem JG {w0 w:World} {R:List Nat} {t d s n b c:Nat} {E E' : List Ent} {k:Nat} {caps:Array Value} {id ca ep nn e:Int} (h:TxS w0 R w t d s n E) (hb:w.heap[b]?=some (.cells #[.func (.func k) #[] caps] 98)) (hc:w.heap[c]?=some (.cells #[.int .i64 0,.int .i64 0,.int .i64 0,.int .u64 0] 32)) (hcR:c∈R) (hct:c≠t) (hc0:w0.heap.size≤c)
  (hk:∀ w,(callFunc k caps).run Tryz.prog w=.ok (.enter k caps) w) (HC:Calls Tryz.prog k caps w fun e' w' => e'=.returned (.tuple #[.agg #[.int .i64 id,.int .i64 ca,.int .i64 ep,.int .u64 nn],.int .i64 e])∧TxS w0 R w' t d s n E'∧KeptT R t w w') :
  Calls Tryz.prog 119 #[.pointer (some ⟨b,0,none⟩),.pointer (some ⟨c,0,none⟩)] w fun e' w' => e'=.returned (.int .i64 e)∧TxS w0 R w' t d s n E'∧w'.heap[c]?=some (.cells #[.int .i64 id,.int .i64 ca,.int .i64 ep,.int .u64 nn] 32)∧∀ k∈R,k≠t→k≠c→w'.heap[k]?=w.heap[k]?:=by
 have cb:=(aJ hb).1;have H:=Hd HC;have HX:=Hd (And.intro hc (And.intro hcR (And.intro hct hc0)));clear h hb hc hcR hct hc0 HC;go_enter Tryz.func119,Tryz.ntmps119;go_wp2_with fail;refine H.out.mono ?_;rintro e' w1 ⟨rfl,h1,h2⟩;have hc1:=(h2 c HX.out.2.1 HX.out.2.2.1).trans HX.out.1;obtain ⟨⟨c0,c1,c2,c3⟩,g0,g1,g2,g3⟩:=bV hc1;obtain ⟨n1,n2⟩:=set4 hc1 (.int .i64 id) (.int .i64 ca) (.int .i64 ep) (.int .u64 nn)
 have FIN:Hid (TxS w0 R (st4 w1 c (.int .i64 id) (.int .i64 ca) (.int .i64 ep) (.int .u64 nn)) t d s n E'∧(st4 w1 c (.int .i64 id) (.int .i64 ca) (.int .i64 ep) (.int .u64 nn)).heap[c]?=some (.cells #[.int .i64 id,.int .i64 ca,.int .i64 ep,.int .u64 nn] 32)∧∀ k∈R,k≠t→k≠c→(st4 w1 c (.int .i64 id) (.int .i64 ca) (.int .i64 ep) (.int .u64 nn)).heap[k]?=w.heap[k]?):=Hd
  ⟨h1.turn HX.out.2.1 HX.out.2.2.1 HX.out.2.2.2 n2,n1,fun k hk hn hnc=>(n2.block k (h1.lt.1 k hk) hnc).trans (h2 k hk hn)⟩
 unfold st4 at FIN;clear h1 h2 hc1 cb n1 n2;go_wp2_with fail;go_ret;exact ⟨rfl,FIN.out⟩
theorem rQ {w0 w:World} {R:List Nat} {t d s n:Nat} {E E' : List Ent} {k:Nat} {caps:Array Value} {id ca ep nn e id' ca' ep' nn' : Int} (h:TxS w0 R w t d s n E) (he:(e=0∧id'=id∧ca'=ca∧ep'=ep∧nn'=nn)∨(e≠0∧id'=0∧ca'=0∧ep'=0∧nn'=0))
  (hk:∀ w,(callFunc k caps).run Tryz.prog w=.ok (.enter k caps) w) (HC:∀ R' wa,(∀ k∈R,k∈R')→TxS w0 R' wa t d s n E→KeptT R t w wa→Calls Tryz.prog k caps wa fun e' w' => e'=.returned (.tuple #[.agg #[.int .i64 id,.int .i64 ca,.int .i64 ep,.int .u64 nn],.int .i64 e])∧TxS w0 R' w' t d s n E'∧KeptT R' t wa w') :
  Calls Tryz.prog 51 #[.pointer (some ⟨t,0,none⟩),.func (.func k) #[] caps] w fun e' w' => e'=.returned (.tuple #[.agg #[.int .i64 id', .int .i64 ca', .int .i64 ep', .int .u64 nn'],.int .i64 e])∧TxS w0 R w' t d s n E'∧KeptT R t w w' := by
 obtain ⟨a1,a2,a3,a4,a5,a6,a7⟩:=h.box (.cells #[.func (.func k) #[] caps] 98);obtain ⟨x1,hx1⟩:∃ x1,w.alloc (.cells #[.func (.func k) #[] caps] 98)=x1:=⟨_,rfl⟩
 rw [hx1] at a1 a2 a3 a5;obtain ⟨b1,b2,b3,b4,b5,b6,b7⟩:=a1.box (.cells #[.int .i64 0,.int .i64 0,.int .i64 0,.int .u64 0] 32);obtain ⟨x2,hx2⟩:∃ x2,x1.alloc (.cells #[.int .i64 0,.int .i64 0,.int .i64 0,.int .u64 0] 32)=x2:=⟨_,rfl⟩
 rw [hx2] at b1 b2 b3 b5;rw [a5] at b1 b3 b4 b5 b6 b7;obtain ⟨c1,c2,c3,c4,c5,c6,c7⟩:=b1.box (.cells #[.int .i64 0,.int .i64 0,.int .i64 0,.int .u64 0] 32);obtain ⟨x3,hx3⟩:∃ x3,x2.alloc (.cells #[.int .i64 0,.int .i64 0,.int .i64 0,.int .u64 0] 32)=x3:=⟨_,rfl⟩
 rw [hx3] at c1 c2 c3 c5;rw [b5] at c1 c3 c4 c5 c6 c7;obtain ⟨d1,d2,d3,d4,d5,d6,d7⟩:=c1.box (.cells #[.int .i64 0,.int .i64 0,.int .i64 0,.int .u64 0] 32);obtain ⟨x4,hx4⟩:∃ x4,x3.alloc (.cells #[.int .i64 0,.int .i64 0,.int .i64 0,.int .u64 0] 32)=x4:=⟨_,rfl⟩
 rw [hx4] at d1 d2 d3 d5;rw [c5] at d1 d3 d4 d5 d6 d7;have hf:=(d2 w.heap.size (by simp) a4).trans ((c2 w.heap.size (by simp) a4).trans ((b2 w.heap.size (by simp) a4).trans a3));have hr:=(d2 (w.heap.size + 1) (by simp) b4).trans ((c2 (w.heap.size + 1) (by simp) b4).trans b3);have hz:=(d2 (w.heap.size + 1 + 1) (by simp) c4).trans c3;have hkw:KeptT R t w x4:=a2.trans ((b2.sub (fun k hk=>by simp [hk])).trans ((c2.sub (fun k hk=>by simp [hk])).trans (d2.sub (fun k hk=>by simp [hk]))))
 have HK:=HC ((w.heap.size + 1 + 1 + 1) :: (w.heap.size + 1 + 1) :: (w.heap.size + 1) :: w.heap.size :: R) x4 (fun k hk=>by simp [hk]) d1 hkw;have V1:=Hd (qO d1 (fun w=>by kernel_rfl) (JG d1 hf d3 (by simp) d4 d6 hk HK));have KP:=Hd (And.intro hkw (And.intro hr (And.intro hz (And.intro b4 (And.intro c4 d7)))));have KQ:=Hd (And.intro a5 (And.intro b5 (And.intro c5 (And.intro a6 (And.intro a7 (And.intro b6 (And.intro b7 (And.intro c7 d4))))))));have HE:=Hd he;have X1:=Hd (And.intro hx1 (And.intro hx2 (And.intro hx3 hx4)))
 clear h he HC a1 a2 a3 a4 a5 a6 a7 b1 b2 b3 b4 b5 b6 b7 c1 c2 c3 c4 c5 c6 c7 d1 d2 d3 d4 d5 d6 d7 hf hr hz hkw HK hx1 hx2 hx3 hx4;go_enter Tryz.func51,Tryz.ntmps51;go_upto_region 2 with fail
 try simp only [World.heap_size_alloc]
 rw [X1.out.1,X1.out.2.1,X1.out.2.2.1,X1.out.2.2.2];go_wp2_with fail;refine V1.out.mono ?_;rintro e' w4 ⟨rfl,h1,h2,h3⟩;have r4:=(h3 (w.heap.size + 1) (by simp) KP.out.2.2.2.1 (by omega)).trans KP.out.2.1;have z4:=(h3 (w.heap.size + 1 + 1) (by simp) KP.out.2.2.2.2.1 (by omega)).trans KP.out.2.2.1;obtain ⟨⟨y0,y1,y2,y3⟩,u0,u1,u2,u3⟩:=bV r4;obtain ⟨⟨z0,z1,z2,z3⟩,_⟩:=bV z4;obtain ⟨⟨v0,v1,v2,v3⟩,_⟩:=bV h2;obtain ⟨n1,n2⟩:=set4 r4 (.int .i64 id') (.int .i64 ca') (.int .i64 ep') (.int .u64 nn')
 have FIN:Hid ((st4 w4 (w.heap.size + 1) (.int .i64 id') (.int .i64 ca') (.int .i64 ep') (.int .u64 nn')).heap[w.heap.size + 1]?=some (.cells #[.int .i64 id', .int .i64 ca', .int .i64 ep', .int .u64 nn'] 32)∧TxS w0 R (st4 w4 (w.heap.size + 1) (.int .i64 id') (.int .i64 ca') (.int .i64 ep') (.int .u64 nn')) t d s n E'∧KeptT R t w (st4 w4 (w.heap.size + 1) (.int .i64 id') (.int .i64 ca') (.int .i64 ep') (.int .u64 nn'))):=Hd (by
  have g1:=h1.turn (k:=w.heap.size + 1) (by simp) KP.out.2.2.2.1 (by have:=KQ.out.2.2.2.1; omega) n2;refine ⟨n1,g1.sub (fun k hk=>by simp [hk]),fun k hk hn=>?_⟩
  have hk1:k≠w.heap.size + 1:=fun e=>by
   have:=KQ.out.2.2.2.2.2.2.1 k (by simp [hk]);exact this e
  refine (n2.block k (h1.lt.1 k (by simp [hk])) hk1).trans ((h3 k (by simp [hk]) hn (KP.out.2.2.2.2.2 k (by simp [hk]))).trans (KP.out.1 k hk hn)))
 clear h1 h2 h3 V1 r4 z4 n1 n2 KP KQ;unfold st4 at FIN
 rcases HE.out with ⟨rfl,rfl,rfl,rfl,rfl⟩ | ⟨hne,rfl,rfl,rfl,rfl⟩
 ·go_wp2_with fail
  exact bodyPost_ret (v:=.tuple #[.agg #[.int .i64 id', .int .i64 ca', .int .i64 ep', .int .u64 nn'],.int .i64 0]) (aV (fn:=Tryz.f51) rfl _ _ (w.heap.size + 1) 32 _ (0,0) _ _ rfl rfl FIN.out.1 Tryz.underlying32 rfl cP) rfl ⟨rfl,FIN.out.2⟩
 ·have hn1:(e == 0)=false:=by simpa using hne
  have hn2:(e != 0)=true:=by simp [hne]
  clear hne;go_wp2_with fail;exact bodyPost_ret (v:=.tuple #[.agg #[.int .i64 0,.int .i64 0,.int .i64 0,.int .u64 0],.int .i64 e]) (aV (fn:=Tryz.f51) rfl _ _ (w.heap.size + 1) 32 _ (0,0) _ _ rfl rfl FIN.out.1 Tryz.underlying32 rfl cP) rfl ⟨rfl,FIN.out.2⟩
structure SlE (E:List Ent) (Ys:List Ent):Prop where
 s:mZ E
 k:∀ e∈E,0≤e.1∧e.1≤18446744073709551615
 y:gJ E=Ys
 ok:∀ e∈Ys,kU (spB e.1) e.2=true
 id:∀ (i:Nat) (e:Ent),Ys[i]?=some e→spB e.1=(i:Int) + 1
 m:Ys.length≤200
 n:E.length≤300
theorem uY {w0 w:World} {R:List Nat} {t d s n:Nat} {E Ys:List Ent} {nc:Int} (h:TxS w0 R w t d s n E) (hs:SlE E Ys) :
  Calls Tryz.prog 53 #[.pointer (some ⟨t,0,none⟩),.int .u64 nc] w fun e w' => ∃ vs,e=.returned (.agg vs)∧LeastR Ys nc vs∧TxS w0 R w' t d s n E∧KeptT R t w w' := by
 obtain ⟨F,h1,h2,h3⟩:=h.said;have hl:=h.lt;refine (DI h1 (by have:=hs.n; omega) hs.s hs.k (by rw [hs.y]; exact hs.ok) (by rw [hs.y]; exact hs.id) (by rw [hs.y]; exact hs.m)).mono ?_;rintro e w' ⟨vs,rfl,g1,g2,g3⟩;rw [hs.y] at g1;refine ⟨vs,rfl,g1,g2.hide fun k hk=>⟨Nat.lt_of_lt_of_le (hl.1 k hk) g3.size,h2 k hk⟩,fun k hk hn=>g3.block k (hl.1 k hk) fun e=>e.elim (h2 k hk) hn⟩
theorem LeastR.open {Ys:List Ent} {nc:Int} {vs:Array Value} (h:LeastR Ys nc vs) (hb:∀ e∈Ys,fI nc e=false) {i:Nat} (hi:i < 200) (hl:∀ j,j < i→dD Ys j=false) (ho:dD Ys i=true):vs=(pP (eM Ys i)).toArray:=by
 rcases h with ⟨⟨e,h1,h2⟩,_⟩ | ⟨_,⟨j,h1,h2,h3,rfl⟩ | ⟨h1,_⟩⟩
 ·rw [hb e h1] at h2; cases h2
 ·rcases Nat.lt_trichotomy i j with hij | rfl | hij
  ·rw [h2 i hij] at ho; cases ho
  ·rfl
  ·rw [hl j hij] at h3; cases h3
 ·rw [h1 i hi] at ho; cases ho
theorem LeastR.busy {Ys:List Ent} {nc:Int} {vs:Array Value} (h:LeastR Ys nc vs) {e:Ent} (he:e∈Ys) (hb:fI nc e=true):vs=#[.int .i64 0,.int .i64 0,.int .i64 0,.int .u64 0,.int .i64 13]:=by
 rcases h with ⟨_,h2⟩ | ⟨h1,_⟩
 ·exact h2
 ·rw [h1 e he] at hb; cases hb
theorem IX {w0 w:World} {R:List Nat} {t d s bc bt bn:Nat} {E Ys:List Ent} {ca nc:Int} {q:Nat} {ep n0:Int} (h:TxS w0 R w t d s 640 E) (hc:w.heap[bc]?=some (.cells #[.int .i64 ca] 3)) (hb:w.heap[bt]?=some (.cells #[.pointer (some ⟨t,0,none⟩)] 24)) (hn:w.heap[bn]?=some (.cells #[.int .u64 nc] 30)) (hm:(bc∈R∧bc≠t)∧(bt∈R∧bt≠t)∧(bn∈R∧bn≠t)) (hs:SlE E Ys) (hca:1≤ca∧ca≤16777215) (hnc:0≤nc∧nc≤18446744073709551615) (hbu:∀ e∈Ys,fI nc e=false) {i:Nat} (hi:i < 200) (hlo:∀ j,j < i→dD Ys j=false) (hop:dD Ys i=true) (hsl:eM Ys i=((q:Int),0,ep,n0)) (hq:q=i + 1) (hep:1≤ep∧ep≤15) :
  Calls Tryz.prog 52 #[.pointer (some ⟨bc,0,none⟩),.pointer (some ⟨bt,0,none⟩),.pointer (some ⟨bn,0,none⟩)] w fun e w' => e=.returned (.tuple #[.agg #[.int .i64 (q:Int),.int .i64 ca,.int .i64 ep,.int .u64 nc],.int .i64 0])∧TxS w0 R w' t d s 640 (bZ (dZ 4 0 q) (bK ca ep nc) E)∧KeptT R t w w' := by
 obtain ⟨a1,a2,a3,a4,a5,a6,a7⟩:=h.box (.cells #[.int .i64 0,.int .i64 0,.int .i64 0,.int .u64 0] 32);obtain ⟨r3,hr3⟩:∃ r3,w.heap.size=r3:=⟨_,rfl⟩
 obtain ⟨x1,hx1⟩:∃ x1,w.alloc (.cells #[.int .i64 0,.int .i64 0,.int .i64 0,.int .u64 0] 32)=x1:=⟨_,rfl⟩
 rw [hx1] at a1 a2 a3 a5;rw [hr3] at a1 a3 a4 a5 a6 a7;have X1:=Hd hx1;have HX:=Hd (And.intro hc (And.intro hb (And.intro hn hm)));have d0:=(aJ ((a2 bc hm.1.1 hm.1.2).trans hc)).1;have d1:=(aJ ((a2 bt hm.2.1.1 hm.2.1.2).trans hb)).1;have d2:=(aJ ((a2 bn hm.2.2.1 hm.2.2.2).trans hn)).1;have LS:=Hd (uY (nc:=nc) a1 hs);have HLR:Hid (∀ vs,LeastR Ys nc vs→vs=#[.int .i64 (q:Int),.int .i64 0,.int .i64 ep,.int .u64 n0,.int .i64 0]):=Hd fun vs hv=>by rw [hv.open hbu hi hlo hop,hsl]; rfl
 have e1:¬ ca < 1:=by omega
 have e2:¬ (16777215:Int) < ca:=by omega
 have hslo:bJ (q:Int) ca ep=true:=by
  unfold bJ;simp only [Bool.and_eq_true,iV];refine ⟨⟨⟨by omega,by omega⟩,by omega⟩,?_⟩;have:(ep != 16)=true:=by simp; omega
  rw [this]; rfl
 have HPU:=Hd (And.intro hs.n (And.intro hslo (And.intro hnc.1 (show (bK ca ep nc).size≤40 from by unfold bK; rw [ByteArray.size_append,ByteArray.size_append]; have:=dP ca 3 (by decide); have:=dP ep 1 (by decide); have:=dP nc 8 (by decide); omega))));have HR4:=Hd (And.intro a6 a7);have A3:=Hd (And.intro a3 a4);have A2:=Hd a2;have A7:=Hd (And.intro h.lt.1 hr3);clear h hc hb hn hm hs hca hnc hbu hi hlo hop hsl hq hep hslo a1 a2 a3 a4 a5 a6 a7 hx1;go_enter Tryz.func52,Tryz.ntmps52;go_upto_region 1 with fail
 rw [X1.out];clear hr3;go_wp2_with fail;refine LS.out.mono ?_;rintro e w1 ⟨vs,rfl,hR,h1,h2⟩;obtain rfl:=HLR.out vs hR;clear hR LS d0 d1 d2;go_upto_region 4 with fail
 obtain ⟨bf,hbf⟩:∃ bf,w1.heap.size=bf:=⟨_,rfl⟩
 obtain ⟨w2,hw2⟩:∃ w2,w1.alloc (.cells #[.int .i64 (q:Int),.int .i64 0,.int .i64 ep,.int .u64 n0,.int .i64 0] 92)=w2:=⟨_,rfl⟩
 obtain ⟨s2,m2,b2⟩:=bQ hw2 hbf;rw [hw2,hbf];obtain ⟨z0,z1,z2,z3,z4⟩:=dF m2;have hl1:=h1.lt.1;have TD:=Hd (And.intro ((h1.more b2 bf (by omega) (by omega)).below Br.drew) (show ∀ k∈R,k≠t→w2.drew.heap[k]?=w.heap[k]? from fun k hk hn=>(b2.block k (hl1 k (by simp [hk]))).trans ((h2 k (by simp [hk]) hn).trans (A2.out k hk hn))));have hbt:=h1.lt.2;have fr:=h1.from.size
 have HNE:Hid (bc≠bf∧bn≠bf∧bf≠t∧w0.heap.size≤bf):=Hd ⟨fun e=>by have:=hl1 bc (by simp [HX.out.2.2.2.1.1]); omega,fun e=>by have:=hl1 bn (by simp [HX.out.2.2.2.2.2.1]); omega,by omega,by omega⟩;have HLT:Hid (∀ k∈R,k≠bf):=Hd fun k hk e=>by have:=hl1 k (by simp [hk]); omega
 have HR3:=Hd (And.intro (show w2.drew.heap[r3]?=some (.cells #[.int .i64 0,.int .i64 0,.int .i64 0,.int .u64 0] 32) from (b2.block r3 (hl1 r3 (by simp))).trans ((h2 r3 (by simp) A3.out.2).trans A3.out.1)) (And.intro (show r3≠bf from fun e=>by have:=hl1 r3 (by simp); omega) A3.out.2));have HS0:Hid ((fun w' : World=>w'.heap[bc]?=some (.cells #[.int .i64 ca] 3)∧w'.heap[bn]?=some (.cells #[.int .u64 nc] 30)) w2.drew):=Hd ⟨(TD.out.2 bc HX.out.2.2.2.1.1 HX.out.2.2.2.1.2).trans HX.out.1,(TD.out.2 bn HX.out.2.2.2.2.2.1 HX.out.2.2.2.2.2.2).trans HX.out.2.2.1⟩
 obtain ⟨wd,hwd⟩:∃ wd,w2.drew=wd:=⟨_,rfl⟩
 have MD:Hid (wd.heap[bf]?=some (.cells #[.int .i64 (q:Int),.int .i64 0,.int .i64 ep,.int .u64 n0,.int .i64 0] 92)):=Hd (by rw [← hwd]; exact m2);rw [hwd] at TD HR3 HS0;have HWD:=Hd hwd;clear h1 h2 s2 m2 b2 hw2 hbf hl1 hbt fr hwd;go_upto_region 6 with fail
 clear z0 z1 z2 z3 z4;have hwd:=HWD.out;obtain ⟨z0,z1,z2,z3,z4⟩:=dF MD.out;have g1:=ufb MD.out 1;have g3:=ufb MD.out 3;refine wp_region_held_drew (S:=fun w' => w'.heap[bc]?=some (.cells #[.int .i64 ca] 3)∧w'.heap[bn]?=some (.cells #[.int .u64 nc] 30)) (by kernel_rfl) (by rw [hwd]; exact HS0.out) (fun hS=>?_);rw [hwd] at hS ⊢;clear hwd;refine Hv 0 22 ?va0x1 hS ?ha0x1 ?_
 case ha0x1 =>
  intro w9 s9;have k9:=(aJ s9.1).1;clear s9;go_simp;try (with_reducible rfl)
 simp only [SL];refine Hv 1 23 ?va1x2 hS ?ha1x2 ?_
 case ha1x2 =>
  intro w9 s9;have k9:=(aJ s9.2).1;clear s9;go_simp;try (with_reducible rfl)
 simp only [SL];refine Hu 2 24 hS ?_;simp only [SL];refine Hu 3 25 hS ?_;simp only [SL];refine Hs 4 (fun K HK=>?_);go_simp;refine HK.out _ _ ?_ ?_
 ·exact ⟨(Below.heap_setCell _ _ _ _ HNE.out.1).trans hS.1,(Below.heap_setCell _ _ _ _ HNE.out.2.1).trans hS.2⟩
 clear HK K;try simp only [Act.put,SL]
 have hS9:=(show (_∧_) from ⟨(Below.heap_setCell wd ⟨bf,1,none⟩ (.int .i64 ca) _ HNE.out.1).trans hS.1,(Below.heap_setCell wd ⟨bf,1,none⟩ (.int .i64 ca) _ HNE.out.2.1).trans hS.2⟩)
 clear hS;have hS:=hS9;clear hS9;refine Hu 5 26 hS ?_;simp only [SL];refine Hu 6 27 hS ?_;simp only [SL];refine Hs 7 (fun K HK=>?_);go_simp;refine HK.out _ _ ?_ ?_
 ·exact ⟨(Below.heap_setCell _ _ _ _ HNE.out.1).trans hS.1,(Below.heap_setCell _ _ _ _ HNE.out.2.1).trans hS.2⟩
 clear HK K;try simp only [Act.put,SL]
 refine wpAnyH_done (by kernel_rfl) ?_ _;clear hS;obtain ⟨w4,hw4⟩:∃ w4,(wd.setCell ⟨bf,1,none⟩ (.int .i64 ca)).setCell ⟨bf,3,none⟩ (.int .u64 nc)=w4:=⟨_,rfl⟩
 rw [hw4];have f4:Frm (fun k=>k=bf) wd w4:=by rw [← hw4]; exact ((Frm.refl (fun k=>k=bf) wd).setCell ⟨bf,1,none⟩ _ (.inl rfl)).setCell ⟨bf,3,none⟩ _ (.inl rfl)
 have m4:w4.heap[bf]?=some (.cells #[.int .i64 (q:Int),.int .i64 ca,.int .i64 ep,.int .u64 nc,.int .i64 0] 92):=by
  rw [← hw4,hss _ _ 3 _ _ _ (hss _ _ 1 _ _ _ MD.out)]
  rfl
 have T4:=Hd (And.intro (TD.out.1.turn (by simp) HNE.out.2.2.1 HNE.out.2.2.2 f4) (show ∀ k∈r3 :: R,k≠t→w4.heap[k]?=w.heap[k]?∨k=r3 from fun k hk hn=>by
  rcases List.mem_cons.1 hk with rfl | hk
  ·exact .inr rfl
  ·exact .inl ((f4.block k (TD.out.1.lt.1 k (by simp [hk])) (HLT.out k hk)).trans (TD.out.2 k hk hn))))
 have q4:=(f4.block bt (TD.out.1.lt.1 bt (by simp [HX.out.2.2.2.2.1.1])) (HLT.out bt HX.out.2.2.2.2.1.1)).trans ((TD.out.2 bt HX.out.2.2.2.2.1.1 HX.out.2.2.2.2.1.2).trans HX.out.2.1);have r4:=(f4.block r3 (TD.out.1.lt.1 r3 (by simp)) HR3.out.2.1).trans HR3.out.1;have c1:=(aJ q4).1;obtain ⟨z0,z1,z2,z3,z4⟩:=dF m4;have M4:=Hd m4;have R4:=Hd r4;have PU:=Hd (uV T4.out.1 HPU.out.1 HPU.out.2.1 HPU.out.2.2.1 rfl HPU.out.2.2.2 (rfl:dZ 4 0 (q:Int)=dZ 4 0 (q:Int)));clear hw4 f4 m4 q4 r4;go_wp2_with fail;refine PU.out.mono ?_;rintro e w5 ⟨rfl,h1,h2⟩
 have m5:=(h2 bf (by simp) HNE.out.2.2.1).trans M4.out;have r5:=(h2 r3 (by simp) HR3.out.2.2).trans R4.out;clear c1 z0 z1 z2 z3 z4;obtain ⟨z0,z1,z2,z3,z4⟩:=dF m5;obtain ⟨⟨y0,y1,y2,y3⟩,u0,u1,u2,u3⟩:=bV r5;obtain ⟨n1,n2⟩:=set4 r5 (.int .i64 (q:Int)) (.int .i64 ca) (.int .i64 ep) (.int .u64 nc)
 have FIN:Hid ((st4 w5 r3 (.int .i64 (q:Int)) (.int .i64 ca) (.int .i64 ep) (.int .u64 nc)).heap[r3]?=some (.cells #[.int .i64 (q:Int),.int .i64 ca,.int .i64 ep,.int .u64 nc] 32)∧TxS w0 R (st4 w5 r3 (.int .i64 (q:Int)) (.int .i64 ca) (.int .i64 ep) (.int .u64 nc)) t d s 640 (bZ (dZ 4 0 q) (bK ca ep nc) E)∧KeptT R t w (st4 w5 r3 (.int .i64 (q:Int)) (.int .i64 ca) (.int .i64 ep) (.int .u64 nc))):=Hd (by
  refine ⟨n1,(h1.turn (k:=r3) (by simp) HR3.out.2.2 HR4.out.1 n2).sub (fun k hk=>by simp [hk]),fun k hk hn=>?_⟩;have hk3:k≠r3:=HR4.out.2 k hk;refine (n2.block k (h1.lt.1 k (by simp [hk])) hk3).trans ((h2 k (by simp [hk]) hn).trans ?_)
  rcases T4.out.2 k (by simp [hk]) hn with h9 | h9
  ·exact h9
  ·exact absurd h9 hk3)
 unfold st4 at FIN;clear h1 h2 m5 r5 n1 n2 PU;go_wp2_with fail;exact bodyPost_ret (v:=.tuple #[.agg #[.int .i64 (q:Int),.int .i64 ca,.int .i64 ep,.int .u64 nc],.int .i64 0]) (aV (fn:=Tryz.f52) rfl _ _ r3 32 _ (0,0) _ _ rfl rfl FIN.out.1 Tryz.underlying32 rfl cP) rfl ⟨rfl,FIN.out.2⟩
theorem IY {w0 w:World} {R:List Nat} {t d s bc bt bn:Nat} {E Ys:List Ent} {ca nc:Int} {c:Int} (h:TxS w0 R w t d s 640 E) (hc:w.heap[bc]?=some (.cells #[.int .i64 ca] 3)) (hb:w.heap[bt]?=some (.cells #[.pointer (some ⟨t,0,none⟩)] 24)) (hn:w.heap[bn]?=some (.cells #[.int .u64 nc] 30)) (hm:(bc∈R∧bc≠t)∧(bt∈R∧bt≠t)∧(bn∈R∧bn≠t)) (hs:SlE E Ys) (hca:1≤ca∧ca≤16777215) (hc0:c≠0) (hL:∀ vs,LeastR Ys nc vs→vs=#[.int .i64 0,.int .i64 0,.int .i64 0,.int .u64 0,.int .i64 c]) :
  Calls Tryz.prog 52 #[.pointer (some ⟨bc,0,none⟩),.pointer (some ⟨bt,0,none⟩),.pointer (some ⟨bn,0,none⟩)] w fun e w' => e=.returned (.tuple #[.agg #[.int .i64 0,.int .i64 0,.int .i64 0,.int .u64 0],.int .i64 c])∧TxS w0 R w' t d s 640 E∧KeptT R t w w' := by
 obtain ⟨a1,a2,a3,a4,a5,a6,a7⟩:=h.box (.cells #[.int .i64 0,.int .i64 0,.int .i64 0,.int .u64 0] 32);obtain ⟨r3,hr3⟩:∃ r3,w.heap.size=r3:=⟨_,rfl⟩
 obtain ⟨x1,hx1⟩:∃ x1,w.alloc (.cells #[.int .i64 0,.int .i64 0,.int .i64 0,.int .u64 0] 32)=x1:=⟨_,rfl⟩
 rw [hx1] at a1 a2 a3 a5;rw [hr3] at a1 a3 a4 a5 a6 a7;have X1:=Hd hx1;have HX:=Hd (And.intro hc (And.intro hb (And.intro hn hm)));have d0:=(aJ ((a2 bc hm.1.1 hm.1.2).trans hc)).1;have d1:=(aJ ((a2 bt hm.2.1.1 hm.2.1.2).trans hb)).1;have d2:=(aJ ((a2 bn hm.2.2.1 hm.2.2.2).trans hn)).1;have LS:=Hd (uY (nc:=nc) a1 hs);have HLR:=Hd hL;have e1:¬ ca < 1:=by omega
 have e2:¬ (16777215:Int) < ca:=by omega
 have e3:¬ c=0:=hc0;have HR4:=Hd (And.intro a6 a7);have A3:=Hd (And.intro a3 a4);have A2:=Hd a2;clear h hc hb hn hm hs hca hL hc0 a1 a2 a3 a4 a5 a6 a7 hx1;go_enter Tryz.func52,Tryz.ntmps52;go_upto_region 1 with fail
 rw [X1.out];clear hr3;go_wp2_with fail;refine LS.out.mono ?_;rintro e w1 ⟨vs,rfl,hR,h1,h2⟩;obtain rfl:=HLR.out vs hR;clear hR LS d0 d1 d2;go_upto_region 4 with fail
 obtain ⟨bf,hbf⟩:∃ bf,w1.heap.size=bf:=⟨_,rfl⟩
 obtain ⟨w2,hw2⟩:∃ w2,w1.alloc (.cells #[.int .i64 0,.int .i64 0,.int .i64 0,.int .u64 0,.int .i64 c] 92)=w2:=⟨_,rfl⟩
 obtain ⟨s2,m2,b2⟩:=bQ hw2 hbf;rw [hw2,hbf];obtain ⟨z0,z1,z2,z3,z4⟩:=dF m2;have hl1:=h1.lt.1;have TD:=Hd (And.intro ((h1.more b2 bf (by omega) (by omega)).below Br.drew) (show ∀ k∈R,k≠t→w2.drew.heap[k]?=w.heap[k]? from fun k hk hn=>(b2.block k (hl1 k (by simp [hk]))).trans ((h2 k (by simp [hk]) hn).trans (A2.out k hk hn))));have HNE:Hid (bf≠r3):=Hd (fun e=>by have:=hl1 r3 (by simp); omega)
 have HR3:=Hd (show w2.drew.heap[r3]?=some (.cells #[.int .i64 0,.int .i64 0,.int .i64 0,.int .u64 0] 32) from (b2.block r3 (hl1 r3 (by simp))).trans ((h2 r3 (by simp) A3.out.2).trans A3.out.1));obtain ⟨wd,hwd⟩:∃ wd,w2.drew=wd:=⟨_,rfl⟩
 have MD:Hid ((fun w' : World=>w'.heap[bf]?=some (.cells #[.int .i64 0,.int .i64 0,.int .i64 0,.int .u64 0,.int .i64 c] 92)) wd):=Hd (by rw [← hwd]; exact m2);rw [hwd] at TD HR3;have HWD:=Hd hwd;clear h1 h2 s2 m2 b2 hw2 hbf hl1 hwd;go_upto_region 5 with fail
 clear z0 z1 z2 z3 z4;have hwd:=HWD.out;obtain ⟨⟨y0,y1,y2,y3⟩,u0,u1,u2,u3⟩:=bV HR3.out;obtain ⟨n1,n2⟩:=set4 HR3.out (.int .i64 0) (.int .i64 0) (.int .i64 0) (.int .u64 0)
 have FIN:Hid ((st4 wd r3 (.int .i64 0) (.int .i64 0) (.int .i64 0) (.int .u64 0)).heap[r3]?=some (.cells #[.int .i64 0,.int .i64 0,.int .i64 0,.int .u64 0] 32)∧TxS w0 R (st4 wd r3 (.int .i64 0) (.int .i64 0) (.int .i64 0) (.int .u64 0)) t d s 640 E∧KeptT R t w (st4 wd r3 (.int .i64 0) (.int .i64 0) (.int .i64 0) (.int .u64 0))):=Hd (by
  refine ⟨n1,((TD.out.1).turn (k:=r3) (by simp) A3.out.2 HR4.out.1 n2).sub (fun k hk=>by simp [hk]),fun k hk hn=>?_⟩;exact (n2.block k ((TD.out.1).lt.1 k (by simp [hk])) (HR4.out.2 k hk)).trans (TD.out.2 k hk hn))
 
 have n3:=Hd ((n2.block bf (TD.out.1.lt.1 bf (by simp)) HNE.out).trans MD.out);unfold st4 at FIN n3;clear n1 n2;refine wp_region_held_drew (S:=fun w' => w'.heap[bf]?=some (.cells #[.int .i64 0,.int .i64 0,.int .i64 0,.int .u64 0,.int .i64 c] 92)) (by kernel_rfl) (by rw [hwd]; exact MD.out) (fun hS=>?_);rw [hwd] at hS ⊢;clear hwd;refine Hu 0 19 hS ?_;simp only [SL];refine Hu 1 20 hS ?_;simp only [SL];refine Hv 2 21 ?vb2x3 hS ?hb2x3 ?_
 case hb2x3 =>
  intro w9 s9;have k9:=(dF s9).2.2.2.2;clear s9;go_simp;try (with_reducible rfl)
 simp only [SL];refine Hs 3 (fun K HK=>?_);go_simp;refine HK.out _ _ ?_ ?_
 ·exact n3.out
 clear HK K;try simp only [Act.put,SL]
 clear hS;have hS:=n3.out;refine Hu 4 4 hS ?_;simp only [SL];refine wpAnyH_done (by kernel_rfl) ?_ _;go_wp2_with fail;exact bodyPost_ret (v:=.tuple #[.agg #[.int .i64 0,.int .i64 0,.int .i64 0,.int .u64 0],.int .i64 c]) (aV (fn:=Tryz.f52) rfl _ _ r3 32 _ (0,0) _ _ rfl rfl FIN.out.1 Tryz.underlying32 rfl cP) rfl ⟨rfl,FIN.out.2⟩
end Go.Proofs.YtblbiihpfjjhhaaGreatDoor
