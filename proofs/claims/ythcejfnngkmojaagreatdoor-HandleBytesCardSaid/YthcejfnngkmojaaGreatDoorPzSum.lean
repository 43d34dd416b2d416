/-
 Sum.
-/
import Derived.Test.YthcejfnngkmojaaGreatDoorPzTurn2
import Derived.Test.YthcejfnngkmojaaGreatDoorPzTail
import Derived.StillTailTactics
namespace Go.Proofs.YthcejfnngkmojaaGreatDoor
open Go.RowKit
set_option maxRecDepth 20000
set_option maxHeartbeats 12800000
set_option linter.unusedVariables false
set_option linter.unusedSimpArgs false
def SB (p:List UInt8) (n:Nat):List Nat:=(S.blocks p n).list
theorem eT (p:List UInt8) (n:Nat):(SB p n).length=8:=rfl
theorem pY (p:List UInt8) (n:Nat):(S.blocks p n).ok:=by
 cases n with
 | zero=>unfold S.blocks S.HS S.St.ok; decide
 | succ n=>exact S.plus_ok _ _
theorem aCA (p:List UInt8) (n:Nat):∀ x∈SB p n,x < 4294967296:=by
 have h:=pY p n;obtain ⟨a,b,c,d,e,f,g,i⟩:=h;intro x hx;simp only [SB,S.St.list,List.mem_cons,List.not_mem_nil,or_false] at hx
 rcases hx with rfl | rfl | rfl | rfl | rfl | rfl | rfl | rfl <;> assumption
theorem yI (p:List UInt8) (n:Nat) (b:ByteArray) (gk:Nat) (w:World) (h:b.data.toList=(p.drop (64 * n)).take 64) (hb:b.size=64) (hk:Arr 224 w gk S.KS) :
  Calls Tryz.prog 154 #[.agg (U (SB p n)),.pointer (some ⟨gk,0,none⟩),.string b] w fun e w' => e=.returned (.agg (U (SB p (n + 1))))∧Below w.heap.size w w' := by
 have:=SO (S.blocks p n) b gk w hb hk (pY p n);rw [h] at this;exact this
structure Two (w:World) (g:Nat) (L:List Nat) (w0:World):Prop where
 st:Arr 221 w g L
 ks:Arr 224 w (g + 1) S.KS
 below:Below w0.heap.size w0 w
 ge:w0.heap.size≤g
theorem Two.lt {w:World} {g:Nat} {L:List Nat} {w0:World} (h:Two w g L w0):g + 1 < w.heap.size:=h.ks.lt
theorem Two.drew {w:World} {g:Nat} {L:List Nat} {w0:World} (h:Two w g L w0):Two w.drew g L w0:=⟨h.st,h.ks,h.below.drew,h.ge⟩
theorem Two.then {w w' : World} {g:Nat} {L:List Nat} {w0:World} (h:Two w g L w0) (hb:Below w.heap.size w w'):Two w' g L w0:=⟨h.st.below hb,h.ks.below hb,h.below.trans (hb.mono h.below.size),h.ge⟩
theorem Two.alloc {w:World} {g:Nat} {L:List Nat} {w0:World} (h:Two w g L w0) (o:Obj):Two (w.alloc o) g L w0:=⟨h.st.alloc o,h.ks.alloc o,h.below.alloc h.below.size o,h.ge⟩
theorem Two.row {w:World} {g:Nat} {L:List Nat} {w0:World} (h:Two w g L w0) (m:List Nat):Two (w.setRow g (U m)) g m w0:=⟨h.st.row m,h.ks.otherRow _ _ (by omega),below_setRow h.below h.ge _,h.ge⟩
theorem Two.load {w:World} {g:Nat} {L:List Nat} {w0:World} (h:Two w g L w0) (hl:L.length=8):(loadVar 221 ⟨g,0,none⟩).run Tryz.prog w=.ok (.agg (U L)) w :=
 run_loadVar_row w g 221 221 (U L) (0,0) _ h.st Tryz.underlying221 rfl (by rw [bP,hl]; exact gE)
theorem jP {P:Program} {ops:Array Oper} {w:World} {Q:Act→Prop} {rest:List Oper} {o:Oper} {a:Act} (hgd:o.guard=none) (ty:TypeId) (x:Operand) (ho:o.op=.load ty x)
  (g:Nat) (hx:a.eval x=.pointer (some ⟨g,0,none⟩)) (cs:Array Value) (hld:(loadVar ty ⟨g,0,none⟩).run P w=.ok (.agg cs) w)
  (h:wpStill P ops w Q rest (a.put o.dst (.agg cs))):wpStill P ops w Q (o :: rest) a:=by
 unfold wpStill;rw [if_pos (by simp [Region.wanted,hgd])];unfold Oper.still execOp;simp only [ho,hx,Instr.loadAt,Instr.sureAddr,Sem.run_bind,Sem.run_pure,Result.andThen_ok,hld];exact ⟨rfl,h⟩
theorem vS (s:ByteArray) (l:List UInt8) (hl:s.data.toList=l) (n:Nat) (hn:n < l.length / 64):(s.extract (n * 64) ((n + 1) * 64)).data.toList=(l.drop (64 * n)).take 64:=by
 rw [ByteArray.data_extract,Array.toList_extract,List.extract_eq_take_drop,hl,Nat.mul_comm n 64]
 congr 1
 omega
theorem wT (l:List UInt8) (n:Nat) (hn:n < l.length / 64):((S.padded l).drop (64 * n)).take 64=(l.drop (64 * n)).take 64:=by
 unfold S.padded;rw [List.drop_append_of_le_length (by simp; omega),List.take_append_of_le_length (by simp; omega),List.drop_take,List.take_take]
 congr 1
 omega
theorem aBK (F:List Nat):∀ (q r:Nat),r < 4→(hq:q < F.length)→((F.map (M.be 4)).flatten)[4 * q + r]?=some (UInt8.ofNat (F[q] / 256 ^ (3 - r) % 256)):=by
 induction F with
 | nil=>intro q r _ hq; simp at hq
 | cons a F ih =>
  intro q r hr hq;rw [List.map_cons,List.flatten_cons]
  cases q with
  | zero =>
   rw [List.getElem?_append_left (by rw [M.be_length]; omega),Nat.mul_zero,Nat.zero_add,M.be_get 4 a r hr]
   rfl
  | succ q =>
   rw [List.getElem?_append_right (by rw [M.be_length]; omega),M.be_length,show 4 * (q + 1) + r - 4=4 * q + r by omega,ih q r hr (by simpa using hq)]
   rfl
theorem tR (F:List Nat):((F.map (M.be 4)).flatten).length=4 * F.length:=by
 induction F with
 | nil=>rfl
 | cons a F ih=>rw [List.map_cons,List.flatten_cons,List.length_append,ih,M.be_length,List.length_cons]; omega
def ByS (l:List UInt8):Array Value:=(l.map vbS).toArray
def BytS (T:TypeId) (w:World) (g:Nat) (l:List UInt8):Prop:=w.heap[g]?=some (.cells (ByS l) T (0,0))
theorem BytS.cell {T:TypeId} {w:World} {g:Nat} {l:List UInt8} (h:BytS T w g l) (j:Nat) (hj:j < l.length):w.cell? ⟨g,j,none⟩=some (vbS l[j]):=by
 rw [cell_of_row w g j _ T _ h];simp [ByS,List.getElem?_eq_getElem hj]
theorem BytS.free {T:TypeId} {w:World} {g:Nat} {l:List UInt8} (h:BytS T w g l) (j:Nat):w.frozen? ⟨g,j,none⟩=false:=frozen_of_row w g j _ T h
theorem BytS.set {T:TypeId} {w:World} {g:Nat} {l:List UInt8} (h:BytS T w g l) (j:Nat) (v:UInt8):BytS T (w.setCell ⟨g,j,none⟩ (vbS v)) g (l.set j v):=by
 unfold BytS;rw [heap_setCell_same w g j _ T _ h]
 congr 2
 apply Array.ext';simp [ByS,List.map_set]
theorem Two.set {w:World} {g:Nat} {L:List Nat} {w0:World} (h:Two w g L w0) (k j:Nat) (v:Value) (hk:g + 1 < k):Two (w.setCell ⟨k,j,none⟩ v) g L w0 :=
 ⟨h.st.other _ _ (by simp; omega),h.ks.other _ _ (by simp; omega),h.below.setCell (by have:=h.ge; simp; omega) _,h.ge⟩
def mZ (L:List UInt8) (n:Nat):List UInt8:=L.take n ++ List.replicate (32 - n) 0
theorem zL (L:List UInt8) (hL:L.length=32) (n:Nat) (hn:n≤32):(mZ L n).length=32:=by
 unfold mZ; simp; omega
theorem oB (L:List UInt8) (hL:L.length=32) (n:Nat) (hn:n < 32) (b:UInt8) (hb:L[n]?=some b):(mZ L n).set n b=mZ L (n + 1):=by
 unfold mZ;rw [List.set_append_right _ _ (by rw [List.length_take]; omega),List.take_add_one,hb];have e1:n - (L.take n).length=0:=by simp; omega
 rw [e1,show 32 - n=(32 - (n + 1)) + 1 by omega,List.replicate_succ,List.set_cons_zero];simp
theorem UI (L:List UInt8) (hL:L.length=32):mZ L 32=L:=by
 unfold mZ; simp [List.take_of_length_le (Nat.le_of_eq hL)]
theorem MX (s:ByteArray) (l:List UInt8) (hl:s.data.toList=l):(s.extract (l.length / 64 * 64) l.length).data.toList=l.drop (l.length / 64 * 64):=by
 rw [ByteArray.data_extract,Array.toList_extract,List.extract_eq_take_drop,hl];rw [List.take_of_length_le (by simp)]
theorem uT (l E:List UInt8) (hE:S.tail (l.drop (l.length / 64 * 64)) l.length=E):E.length % 64=0∧E.length≤128∧(S.padded l).length / 64=l.length / 64 + E.length / 64:=by
 have h1:(S.padded l).length=l.length / 64 * 64 + E.length:=by
  unfold S.padded;rw [hE,List.length_append,List.length_take];omega
 have h2:E.length=l.length % 64 + 1 + S.zeros (l.length % 64) + 8:=by
  rw [← hE];unfold S.tail;simp only [List.length_append,List.length_drop,List.length_cons,List.length_nil,List.length_replicate,M.be_length];rw [show l.length - l.length / 64 * 64=l.length % 64 by omega]
 unfold S.zeros at h2;omega
theorem QW (l E:List UInt8) (hE:S.tail (l.drop (l.length / 64 * 64)) l.length=E) (n:Nat):((S.padded l).drop (64 * (l.length / 64 + n))).take 64=(E.drop (64 * n)).take 64:=by
 unfold S.padded;rw [hE,List.drop_append,List.drop_of_length_le (by rw [List.length_take]; omega),List.nil_append,List.length_take]
 congr 2
 omega
theorem TF (s:ByteArray) (l:List UInt8) (hl:s.data.toList=l) (hz:s.size≤140737488355328) (w:World) (L:List UInt8) (HL:Hid (S.sum l=L)) :
  Calls Tryz.prog 130 #[.string s] w fun e w' => e=.returned (.string (Str L))∧Below w.heap.size w w' := by
 have hsz:s.size=l.length:=by rw [← hl]; simp
 go_enter Tryz.func130,Tryz.ntmps130;go_wp2_with fail;refine (QP _).mono ?_;rintro e w1 ⟨rfl,b1⟩;go_wp2_with fail;refine (MY _).mono ?_;rintro e w2 ⟨rfl,b2⟩;have bb:Below w.heap.size w w2:=b1.trans (b2.mono b1.size);have hA:Hid (Arr 221 ((w2.alloc (.cells (U bH) 221)).alloc (.cells (U (bV [])) 224)) w2.heap.size bH):=Hd ((Arr.new w2 bH).alloc _)
 have hB:Hid (Arr 224 ((w2.alloc (.cells (U bH) 221)).alloc (.cells (U (bV [])) 224)) (w2.heap.size + 1) (bV [])):=Hd (by
  have:=Arr.new (T:=224) (w2.alloc (.cells (U bH) 221)) (bV []);rwa [show (w2.alloc (.cells (U bH) 221)).heap.size=w2.heap.size + 1 by simp] at this)
 have ins:Hid ((Tryz.prog.info? 221).map (·.size)=some (U S.HS.list).size):=Hd (by rw [bP]; kernel_rfl);have ols:Hid ((U bH).size=(U S.HS.list).size):=Hd (by rw [bP,bP]; rfl);have ons:Hid ((U S.HS.list).all (·.oneCell')=true):=Hd (mT _);have hB2:Hid (Arr 224 (((w2.alloc (.cells (U bH) 221)).alloc (.cells (U (bV [])) 224)).setRow w2.heap.size (U S.HS.list)) (w2.heap.size + 1) (bV [])):=Hd (hB.out.otherRow _ _ (by omega));have ink:Hid ((Tryz.prog.info? 224).map (·.size)=some (U S.KS).size):=Hd (by rw [bP]; kernel_rfl)
 have olk:Hid ((U (bV [])).size=(U S.KS).size):=Hd (by rw [bP,bP]; rfl);have onk:Hid ((U S.KS).all (·.oneCell')=true):=Hd (mT _)
 go_upto_region 1 with (first | refine wpList_store_row rfl 224 (.tmp 4) (.tmp 12) rfl (w2.heap.size + 1) (U S.KS) rfl rfl 224 (U (bV [])) hB2.out ink.out olk.out onk.out ?_ | refine wpList_store_row rfl 221 (.tmp 3) (.tmp 11) rfl w2.heap.size (U S.HS.list) rfl rfl 221 (U bH) hA.out ins.out ols.out ons.out ?_)
 generalize hw3:World.setRow _ _ _=w3
 have HT:Hid (Two w3 w2.heap.size (SB (S.padded l) 0) w):=Hd (by
  rw [← hw3];exact ⟨(hA.out.row S.HS.list).otherRow _ _ (by omega),hB2.out.row S.KS,below_setRow (below_setRow ((bb.alloc bb.size _).alloc (by have:=bb.size; simp; omega) _) bb.size _) (by have:=bb.size; omega) _,bb.size⟩)
 clear hA hB ins ols ons hB2 ink olk onk hw3 b1 b2 bb;generalize w2.heap.size=g at *
 go_loopw [17] (fun i wr=>∃ n:Nat,n≤l.length / 64∧i=.int .i64 (n:Int)∧Hid (Two wr g (SB (S.padded l) n) w)) (fun i _=>l.length / 64 + 1 - (intOf i).toNat)
 case atStart=>exact ⟨0,by omega,rfl,HT⟩
 case round =>
  obtain ⟨n,hn,rfl,HY⟩:=hrel
  by_cases hlt:n < l.length / 64
  ·have hli:(n:Int) < (s.size:Int) / 64:=by omega
   have hld:=HY.out.drew.load (eT _ _);go_wp2_with fail;have k1:IntKind.i64.wrap ((n:Int) * 64)=(n:Int) * 64:=by rw [IntKind.wrap_i64]; omega
   have k2:IntKind.i64.wrap ((n:Int) + 1)=(n:Int) + 1:=by rw [IntKind.wrap_i64]; omega
   have k3:IntKind.i64.wrap (((n:Int) + 1) * 64)=((n:Int) + 1) * 64:=by rw [IntKind.wrap_i64]; omega
   have k4:0≤((n:Int) + 1) * 64∧((n:Int) + 1) * 64≤(l.length:Int):=by omega
   have k5:0≤(n:Int) * 64∧(n:Int) * 64≤((n:Int) + 1) * 64:=by omega
   have k6:((n:Int) * 64).toNat=n * 64:=by omega
   have k7:(((n:Int) + 1) * 64).toNat=(n + 1) * 64:=by omega
   have k8:(n:Int)≤(n:Int) + 1:=by omega
   refine wp_region_still_tail 8 (by kernel_rfl) (by kernel_rfl) ?_;simp only [List.take_succ_cons,List.take_zero,List.drop_succ_cons,List.drop_zero];refine jP rfl 221 (.tmp 3) rfl g rfl _ hld ?_
   still_step
   still_step
   still_step
   still_step
   still_step
   still_step
   still_step
   clear k1 k2 k3 k4 k5 k6 k7 k8;refine wpStill_nil ?_;have hcb:=vS s l hl n hlt;have hcz:(s.extract (n * 64) ((n + 1) * 64)).size=64:=by rw [ByteArray.size_extract]; omega
   generalize s.extract (n * 64) ((n + 1) * 64)=blk at *;change wpList _ _ _ _ _ wr.drew;go_wp2_with fail;refine (yI (S.padded l) n blk (g + 1) _ (by rw [hcb,wT l n hlt]) hcz HY.out.drew.ks).mono ?_;rintro e w4 ⟨rfl,b4⟩;have HY4:=Hd (HY.out.drew.then b4);have FIN:=Hd (HY4.out.row (SB (S.padded l) (n + 1)));have in8:Hid ((Tryz.prog.info? 221).map (·.size)=some (U (SB (S.padded l) (n + 1))).size):=Hd (by rw [bP,eT]; exact gE)
   have ol8:Hid ((U (SB (S.padded l) n)).size=(U (SB (S.padded l) (n + 1))).size):=Hd (by rw [bP,bP,eT,eT]);have on8:Hid ((U (SB (S.padded l) (n + 1))).all (·.oneCell')=true):=Hd (mT _);clear hld hcb hcz HY
   go_wp2_with (refine wpList_store_row rfl 221 (.tmp 3) (.tmp 28) rfl g (U (SB (S.padded l) (n + 1))) rfl rfl 221 (U (SB (S.padded l) n)) HY4.out.st in8.out ol8.out on8.out ?_)
   go_roundw
   case rel=>exact ⟨n + 1,by omega,by go_num,FIN⟩
   case measure=>simp [intOf]; omega
  ·obtain rfl:n=l.length / 64:=by omega
   have hli:¬ (((l.length / 64:Nat):Int) < (l.length:Int) / 64):=by omega
   have htl:=MX s l hl;generalize hE:S.tail (l.drop (l.length / 64 * 64)) l.length=E at *;have hEl:Hid (E.length % 64=0∧E.length≤128∧(S.padded l).length / 64=l.length / 64 + E.length / 64):=Hd (uT l E hE);have hEb:=Hd (QW l E hE);go_wp2_with fail;refine (MW _ (l.drop (l.length / 64 * 64)) htl l.length (by rw [List.length_drop]; omega) (by omega) _).mono ?_;rw [hE];obtain ⟨eb,heb⟩:∃ eb,Str E=eb:=⟨_,rfl⟩
   rw [heb];have hed:Hid (eb.data.toList=E):=Hd (by rw [← heb,aP]);have hez:Hid (eb.size=E.length):=Hd (by rw [← heb,aK]);clear heb htl hE hlt hli hn;rintro e w4 ⟨rfl,b4⟩;have HY4:=Hd (HY.out.then b4);clear HY b4;have hb128:(eb.size:Int)≤128:=by have:=hez.out; have:=hEl.out.2.1; omega
   go_wp2_with fail
   go_loopw [40] (fun i wr=>∃ n:Nat,n≤E.length / 64∧i=.int .i64 (n:Int)∧Hid (Two wr g (SB (S.padded l) (l.length / 64 + n)) w)) (fun i _=>E.length / 64 + 1 - (intOf i).toNat)
   case atStart=>exact ⟨0,by omega,rfl,HY4⟩
   case round =>
    obtain ⟨n,hn,rfl,HY⟩:=hrel
    by_cases hlt:n < E.length / 64
    ·have hli:(n:Int) < (eb.size:Int) / 64:=by rw [hez.out]; omega
     have hld:=HY.out.drew.load (eT _ _);go_wp2_with fail;have k1:IntKind.i64.wrap ((n:Int) * 64)=(n:Int) * 64:=by rw [IntKind.wrap_i64]; omega
     have k2:IntKind.i64.wrap ((n:Int) + 1)=(n:Int) + 1:=by rw [IntKind.wrap_i64]; omega
     have k3:IntKind.i64.wrap (((n:Int) + 1) * 64)=((n:Int) + 1) * 64:=by rw [IntKind.wrap_i64]; omega
     have k4:0≤((n:Int) + 1) * 64∧((n:Int) + 1) * 64≤(eb.size:Int):=by omega
     have k5:0≤(n:Int) * 64∧(n:Int) * 64≤((n:Int) + 1) * 64:=by omega
     have k6:((n:Int) * 64).toNat=n * 64:=by omega
     have k7:(((n:Int) + 1) * 64).toNat=(n + 1) * 64:=by omega
     have k8:(n:Int)≤(n:Int) + 1:=by omega
     refine wp_region_still_tail 8 (by kernel_rfl) (by kernel_rfl) ?_;simp only [List.take_succ_cons,List.take_zero,List.drop_succ_cons,List.drop_zero];refine jP rfl 221 (.tmp 3) rfl g rfl _ hld ?_
     still_step
     still_step
     still_step
     still_step
     still_step
     still_step
     still_step
     clear k1 k2 k3 k4 k5 k6 k7 k8;refine wpStill_nil ?_;have hcb:=vS eb E hed.out n hlt;have hcz:(eb.extract (n * 64) ((n + 1) * 64)).size=64:=by rw [ByteArray.size_extract,hez.out]; omega
     generalize eb.extract (n * 64) ((n + 1) * 64)=blk at *;change wpList _ _ _ _ _ wr.drew;go_wp2_with fail;refine (yI (S.padded l) (l.length / 64 + n) blk (g + 1) _ (by rw [hcb,hEb.out n]) hcz HY.out.drew.ks).mono ?_;rintro e w5 ⟨rfl,b5⟩;have HY5:=Hd (HY.out.drew.then b5);have FIN:=Hd (HY5.out.row (SB (S.padded l) (l.length / 64 + n + 1)));have in8:Hid ((Tryz.prog.info? 221).map (·.size)=some (U (SB (S.padded l) (l.length / 64 + n + 1))).size):=Hd (by rw [bP,eT]; exact gE)
     have ol8:Hid ((U (SB (S.padded l) (l.length / 64 + n))).size=(U (SB (S.padded l) (l.length / 64 + n + 1))).size):=Hd (by rw [bP,bP,eT,eT]);have on8:Hid ((U (SB (S.padded l) (l.length / 64 + n + 1))).all (·.oneCell')=true):=Hd (mT _);clear hld hcb hcz HY
     go_wp2_with (refine wpList_store_row rfl 221 (.tmp 3) (.tmp 51) rfl g (U (SB (S.padded l) (l.length / 64 + n + 1))) rfl rfl 221 (U (SB (S.padded l) (l.length / 64 + n))) HY5.out.st in8.out ol8.out on8.out ?_)
     go_roundw
     case rel=>exact ⟨n + 1,by omega,by go_num,FIN⟩
     case measure=>simp [intOf]; omega
    ·obtain rfl:n=E.length / 64:=by omega
     have hli:¬ (((E.length / 64:Nat):Int) < (eb.size:Int) / 64):=by rw [hez.out]; omega
     have HZ:Hid (Two wr g (SB (S.padded l) ((S.padded l).length / 64)) w):=Hd (by rw [hEl.out.2.2]; exact HY.out);clear HY HY4;have hF:Hid (∀ x∈SB (S.padded l) ((S.padded l).length / 64),x < 4294967296):=Hd (aCA _ _);have hL2:Hid (((SB (S.padded l) ((S.padded l).length / 64)).map (M.be 4)).flatten=L):=Hd HL.out;have hF8:Hid ((SB (S.padded l) ((S.padded l).length / 64)).length=8):=Hd (eT _ _);generalize SB (S.padded l) ((S.padded l).length / 64)=F at *;go_wp2_with fail;have hL32:L.length=32:=by rw [← hL2.out,tR,hF8.out]
     generalize decide ((E.length:Int) / 64 < (eb.size:Int) / 64)=bq;have hk:=Hd HZ.out.lt;have HB:Hid (Two (wr.alloc (.cells (ByS (mZ L 0)) 229)) g F w∧BytS 229 (wr.alloc (.cells (ByS (mZ L 0)) 229)) wr.heap.size (mZ L 0)):=Hd ⟨HZ.out.alloc _,heap_alloc_new wr _⟩;generalize wr.heap.size=k at *
     go_loopw [53] (fun i wr=>∃ n:Nat,n≤32∧i=.int .i64 (n:Int)∧Hid (Two wr g F w∧BytS 229 wr k (mZ L n))) (fun i _=>33 - (intOf i).toNat)
     case atStart=>exact ⟨0,by omega,rfl,HB⟩
     case round =>
      obtain ⟨n,hn,rfl,HY⟩:=hrel;clear HZ HB
      by_cases hlt:n < 32
      ·have hli:(n:Int) < 32:=by omega
       have hqL:n / 4 < F.length:=by rw [hF8.out]; omega
       have hg:∀ r,r < 4→n % 4=r→L[n]?=some (UInt8.ofNat (F[n / 4] / 256 ^ (3 - r) % 256)):=fun r hr e=>by
        have:=aBK F (n / 4) r hr hqL;rw [hL2.out,show 4 * (n / 4) + r=n by omega] at this;exact this
       have hx:=hF.out F[n / 4] (List.getElem_mem hqL);have c3:=HY.out.1.st.cell (n / 4) hqL;obtain ⟨ov,c9⟩:∃ ov,wr.cell? ⟨k,n,none⟩=some ov:=⟨_,HY.out.2.cell n (by rw [zL L hL32 n hn]; omega)⟩
       have f9:=HY.out.2.free n;generalize F[n / 4]=x at *;have hq:(n:Int) / 4=((n / 4:Nat):Int):=by omega
       have hq8:((n / 4:Nat):Int) < 8:=by omega
       generalize n / 4=q at *
       rcases (by omega:n % 4=0∨n % 4=1∨n % 4=2∨n % 4=3) with hr | hr | hr | hr
       ·have hri:(n:Int) % 4=0:=by omega
        have hgr:=hg 0 (by omega) hr
        have hby:vbS (UInt8.ofNat (x / 256 ^ (3 - 0) % 256))=.int .u8 ((x:Int) / 16777216):=by
         rw [gV _ (by omega)]; congr 1; omega
        generalize UInt8.ofNat (x / 256 ^ (3 - 0) % 256)=bv at *
        have FIN:Hid (Two (wr.setCell ⟨k,n,none⟩ (vbS bv)) g F w∧BytS 229 (wr.setCell ⟨k,n,none⟩ (vbS bv)) k (mZ L (n + 1))):=Hd ⟨HY.out.1.set k n _ hk.out,by
         have:=HY.out.2.set n bv;rwa [oB L hL32 n hlt bv hgr] at this⟩
        rw [hby] at FIN;clear hg hgr hby HY hr hlt hqL;go_wp2_with fail;go_roundw
        case rel=>exact ⟨n + 1,by omega,by go_num,FIN⟩
        case measure=>simp [intOf]; omega
       ·have hri:(n:Int) % 4=1:=by omega
        have hgr:=hg 1 (by omega) hr
        have hby:vbS (UInt8.ofNat (x / 256 ^ (3 - 1) % 256))=.int .u8 ((x:Int) / 65536 % 256):=by
         rw [gV _ (by omega)]; congr 1
        generalize UInt8.ofNat (x / 256 ^ (3 - 1) % 256)=bv at *
        have FIN:Hid (Two (wr.setCell ⟨k,n,none⟩ (vbS bv)) g F w∧BytS 229 (wr.setCell ⟨k,n,none⟩ (vbS bv)) k (mZ L (n + 1))):=Hd ⟨HY.out.1.set k n _ hk.out,by
         have:=HY.out.2.set n bv;rwa [oB L hL32 n hlt bv hgr] at this⟩
        rw [hby] at FIN;clear hg hgr hby HY hr hlt hqL;go_wp2_with fail;go_roundw
        case rel=>exact ⟨n + 1,by omega,by go_num,FIN⟩
        case measure=>simp [intOf]; omega
       ·have hri:(n:Int) % 4=2:=by omega
        have hgr:=hg 2 (by omega) hr
        have hby:vbS (UInt8.ofNat (x / 256 ^ (3 - 2) % 256))=.int .u8 ((x:Int) / 256 % 256):=by
         rw [gV _ (by omega)]; congr 1
        generalize UInt8.ofNat (x / 256 ^ (3 - 2) % 256)=bv at *
        have FIN:Hid (Two (wr.setCell ⟨k,n,none⟩ (vbS bv)) g F w∧BytS 229 (wr.setCell ⟨k,n,none⟩ (vbS bv)) k (mZ L (n + 1))):=Hd ⟨HY.out.1.set k n _ hk.out,by
         have:=HY.out.2.set n bv;rwa [oB L hL32 n hlt bv hgr] at this⟩
        rw [hby] at FIN;clear hg hgr hby HY hr hlt hqL;go_wp2_with fail;go_roundw
        case rel=>exact ⟨n + 1,by omega,by go_num,FIN⟩
        case measure=>simp [intOf]; omega
       ·have hri:(n:Int) % 4=3:=by omega
        have hgr:=hg 3 (by omega) hr
        have hby:vbS (UInt8.ofNat (x / 256 ^ (3 - 3) % 256))=.int .u8 ((x:Int) % 256):=by
         rw [gV _ (by omega)]; congr 1; omega
        generalize UInt8.ofNat (x / 256 ^ (3 - 3) % 256)=bv at *
        have FIN:Hid (Two (wr.setCell ⟨k,n,none⟩ (vbS bv)) g F w∧BytS 229 (wr.setCell ⟨k,n,none⟩ (vbS bv)) k (mZ L (n + 1))):=Hd ⟨HY.out.1.set k n _ hk.out,by
         have:=HY.out.2.set n bv;rwa [oB L hL32 n hlt bv hgr] at this⟩
        rw [hby] at FIN;clear hg hgr hby HY hr hlt hqL;go_wp2_with fail;go_roundw
        case rel=>exact ⟨n + 1,by omega,by go_num,FIN⟩
        case measure=>simp [intOf]; omega
      ·obtain rfl:n=32:=by omega
       have hli:¬ (((32:Nat):Int) < 32):=by omega
       have hcv:(convert 31 9 (.slice (some ⟨k,0,none⟩) 32 32)).run Tryz.prog wr=.ok (.string (Str L)) wr:=by
        have:=run_convert_bytes_back (P:=Tryz.prog) wr 31 9 5 ⟨k,0,none⟩ 32 L Tryz.underlying31 Tryz.underlying5 Tryz.underlying9 (fun j hj=>by
         have h:=HY.out.2;rw [UI L hL32] at h;rw [bU]; simpa [vbS] using h.cell j hj)
        rw [hL32] at this;exact this
       go_wp2_with fail;go_ret;exact ⟨rfl,HY.out.1.below⟩
theorem ZC (s:ByteArray) (w:World) (hz:s.size≤140737488355328) :
  Calls Tryz.prog 130 #[.string s] w fun e w' => e=.returned (.string (Str (S.sum s.data.toList)))∧Below w.heap.size w w' :=
 TF s _ rfl hz w _ (Hd rfl)
end Go.Proofs.YthcejfnngkmojaaGreatDoor
