/-
 Tail, Sum, SumFacts, Mac0, Mac, MSame, Hm, Hn.
-/
import Derived.Test.YthcejfnngkmojaaGreatDoorP19
import Derived.Test.YthcejfnngkmojaaGreatDoorP05
import Derived.Lib.OthersKept
import Derived.Room.AppendOnto
import Derived.Deep.LoopGhost
import Derived.StillTailTactics
import Derived.Lib.BufferWrite
import Derived.Outline
import Derived.Test.YthcejfnngkmojaaGreatDoorP02
namespace Go.Proofs.YthcejfnngkmojaaGreatDoor
open Go.RowKit
set_option maxRecDepth 20000
set_option maxHeartbeats 12800000
set_option linter.unusedVariables false
set_option linter.unusedSimpArgs false
theorem RQ (w:World)(s:ByteArray)(cap:Nat)(hc:s.size ≤ cap) :
  Came (w.drew.alloc (.cells (bytesRow s cap) 5 ((bytesRow s cap).size,(bytesRow s cap).size + 1))) 1 (some ⟨w.heap.size,0,none⟩) w.heap.size 0 s.size cap (s.data.toList.map fun b=>Value.int .u8 (b.toNat:Int)):=by
 have hsz:(bytesRow s cap).size=cap:=by
  have:s.data.size=s.size:=rfl;simp [bytesRow]; omega
 have hl:s.data.toList.length=s.size:=by simp
 refine ⟨hc,fun _=>rfl,fun _=>by simp,by simp,fun j u hu=>?_,fun j hj=>?_⟩
 ·obtain ⟨hj,he⟩:=List.getElem?_eq_some_iff.1 hu
  rw [List.length_map] at hj;have h:=(Buf.made w s cap).cell j hj;rw [List.getElem_map] at he;rw [Nat.zero_add,h,he]
 ·have hh:=han w.drew (.cells (bytesRow s cap) 5 ((bytesRow s cap).size,(bytesRow s cap).size + 1))
  have hd:w.drew.heap.size=w.heap.size:=rfl;rw [hd] at hh;have hj' : 0 + s.size * 1 + j < (bytesRow s cap).size:=by rw [hsz]; omega
  refine ⟨?_,?_⟩
  ·rw [cell_of_row _ w.heap.size _ (bytesRow s cap) 5 _ hh,Array.getElem?_eq_getElem hj']
   rfl
  ·simp only [World.frozen?,hh]
   simp;omega
theorem aA3:(Tryz.prog.info? 5).map (fun i=>(i.zero,i.size,i.bytes))=some (some (.int .u8 0),1,1):=by kernel_rfl
def vbS (b:UInt8):Value:=.int .u8 (b.toNat:Int)
structure GrownS (W:World)(b cap:Nat)(s0:List UInt8)(w:World)(v:Value)(ks:List UInt8):Prop where
 onto:Onto W 5 1 (some ⟨b,0,none⟩) b 0 s0.length cap (s0.map vbS) w v ks.length (ks.map vbS)
 tape:w.tape=W.tape
theorem GrownS.shape {W:World} {b cap:Nat} {s0:List UInt8} {w:World} {v:Value} {ks:List UInt8} (h:GrownS W b cap s0 w v ks):∃ base c', v=.slice base (s0.length + ks.length) c' := by
 obtain ⟨base,c', hv,_⟩:=h.onto.shape';exact ⟨base,c', hv⟩
theorem GrownS.below {W:World} {b cap:Nat} {s0:List UInt8} {w:World} {v:Value} {ks:List UInt8} (h:GrownS W b cap s0 w v ks)(hb:b ≤ W.heap.size):Below b W w:=by
 obtain ⟨h1,h2,h3⟩:=h.onto.kept;refine ⟨h1,h.tape,h2,h.onto.kept.size,fun k hk=>?_⟩;have h4:=h3 k (by omega)
 cases hW:W.heap[k]? with
 | none =>
  have:=Array.getElem?_eq_none_iff.1 hW;omega
 | some o =>
  rw [hW] at h4
  cases hw:w.heap[k]? with
  | none=>rw [hw] at h4; cases o <;> cases h4
  | some o' =>
   rw [hw] at h4
   cases o <;> cases o' <;> (try exact h4)
   ·obtain ⟨rfl,rfl,hs,hc⟩:=h4
    exact congrArg (fun z=>some (Obj.cells z _ _))(Array.ext_getElem? fun j=>hc j (by rintro ⟨j', _,_,e⟩; simp at e; omega))
   ·rcases h4 with ⟨j', _,_,e⟩ | ⟨rfl,rfl⟩
    ·cases e
    ·rfl
theorem GrownS.conv {W:World} {b cap:Nat} {s0:List UInt8} {w:World} {v:Value} {ks:List UInt8} (h:GrownS W b cap s0 w v ks)(hc:Came W 1 (some ⟨b,0,none⟩) b 0 s0.length cap (s0.map vbS))(hmax:cap ≤ maxLen)(hpos:0 < ks.length) :
  (convert 31 9 v).run Tryz.prog w=.ok (.string (Str (s0 ++ ks))) w:=by
 obtain ⟨g,o', cap', rfl,_,_,hcell⟩:=h.onto.value hc hmax (Or.inr hpos);have hl:(s0 ++ ks).length=s0.length + ks.length:=by simp
 rw [← hl];refine run_convert_bytes_back (P:=Tryz.prog) w 31 9 5 ⟨g,o', none⟩ cap' (s0 ++ ks) Tryz.underlying31 Tryz.underlying5 Tryz.underlying9 (fun j hj=>?_);rw [bU];have:=hcell j (by omega);rw [← List.map_append,List.getElem?_map,List.getElem?_eq_getElem hj] at this;exact this
theorem cB (w:World) {ops:Array Oper} {rest:List Oper} {o:Oper} {a:Act} {Q:Exit → Act → World → Prop} (hgd:o.guard=none)(s x:Operand)
  (ho:o.op=.call { callee:=.builtin .append,args:=#[s,x],argTypes:=#[31,31] })
  {W:World} {b cap:Nat} {s0 ks:List UInt8} {v:Value} (hc:Came W 1 (some ⟨b,0,none⟩) b 0 s0.length cap (s0.map vbS))(hs:a.eval s=v)(h:GrownS W b cap s0 w v ks)
  (ad:Addr)(c:Nat)(n:UInt8)(hx:a.eval x=.slice (some ad) 1 c)(hn:w.cell? ad=some (vbS n))(hlen:s0.length + ks.length + 1 ≤ 65536)
  (hK:∀ v' w', GrownS W b cap s0 w' v' (ks ++ [n]) → wpList Tryz.prog ops Q rest (a.put o.dst v') w'):wpList Tryz.prog ops Q (o :: rest) a w:=by
 obtain ⟨i0,hi,hz0,hz1,hz2⟩:=info_parts aA3;refine wpList_plain hgd fun K hK' => ?_
 obtain ⟨v', w', hrun,r⟩:=run_append_onto (P:=Tryz.prog) hc 31 o.type i0 (.int .u8 0) 1 Tryz.underlying31 hi hz0 hz1 hz2 rfl (by decide) h.onto ad c [vbS n] rfl
  (by intro j u hj; match j,hj with
    | 0,hj=>simp at hj; subst hj; simpa [Addr.add] using hn)
  (by intro u hu; simp at hu; subst hu; rfl)(by unfold maxLen; omega)(by omega)
 unfold Oper.wp execOp;simp only [ho,resolve,invoke,builtin,Sem.run_bind,Sem.run_pure,Result.andThen_ok,List.map_toArray,List.map_cons,List.map_nil,hs,hx,hrun];refine hK' _ _ (hK v' w' ⟨?_,(UE _ _ _ _ _ hrun).trans h.tape⟩)
 simpa using r
theorem GrownS.start {W:World} {b cap:Nat} {s0:List UInt8} (hc:Came W 1 (some ⟨b,0,none⟩) b 0 s0.length cap (s0.map vbS)):GrownS W b cap s0 W (.slice (some ⟨b,0,none⟩) s0.length cap) []:=⟨Onto.start hc,rfl⟩
theorem GrownS.alloc {W:World} {b cap:Nat} {s0:List UInt8} {w:World} {v:Value} {ks:List UInt8} (h:GrownS W b cap s0 w v ks)(hc:Came W 1 (some ⟨b,0,none⟩) b 0 s0.length cap (s0.map vbS))(o:Obj):GrownS W b cap s0 (w.alloc o) v ks:=⟨h.onto.alloc hc o,h.tape⟩
theorem aC0 (w:World)(s:ByteArray)(l:List UInt8)(hl:s.data.toList=l)(h:s.size ≤ maxLen):∃ cap w2,(convert 9 31 (.string s)).run Tryz.prog w=.ok (.slice (some ⟨w.heap.size,0,none⟩)(l.length:Nat) cap) w2∧Came w2 1 (some ⟨w.heap.size,0,none⟩) w.heap.size 0 l.length cap (l.map vbS)∧cap ≤ maxLen∧Below w.heap.size w w2∧w.heap.size < w2.heap.size:=by
 have hsz:s.size=l.length:=by rw [← hl]; simp
 have hr:=run_bytes_of_string (P:=Tryz.prog) w 9 31 5 s Tryz.underlying9 Tryz.underlying31 Tryz.underlying5;have hc:=RQ w s (grownCap w s.size 0 5)(grownCap_ge _ _ _ _);rw [hsz,hl] at hc;rw [hsz] at hr h;exact ⟨_,_,hr,hc,grownCap_le_maxLen w _ 0 _ h,(Br.drew).alloc (Nat.le_refl _) _,by simp⟩
def tkS (Z N j:Nat):List UInt8:=0x80 :: List.replicate Z 0 ++ (M.be 8 N).take j
theorem bQ (Z N j:Nat)(h:j ≤ 8):(tkS Z N j).length=Z + 1 + j:=by
 unfold tkS; simp [M.be_length]; omega
theorem JU (Z N:Nat):tkS Z N 0=0x80 :: List.replicate Z 0:=by unfold tkS; simp
theorem dD (Z N j:Nat)(h:j < 8):tkS Z N j ++ [UInt8.ofNat (N / 256 ^ (7 - j) % 256)]=tkS Z N (j + 1):=by
 unfold tkS;rw [List.append_assoc,List.take_add_one,M.be_get 8 N j h]
 rfl
theorem YX (l:List UInt8)(size:Nat):l ++ tkS (S.zeros l.length)(size * 8) 8=S.tail l size:=by
 unfold tkS S.tail;rw [List.take_of_length_le (by rw [M.be_length]; omega)];simp
theorem gV (x:Nat)(h:x < 256):vbS (UInt8.ofNat x)=.int .u8 (x:Int):=by
 unfold vbS; simp [Nat.mod_eq_of_lt h]
theorem MW (s:ByteArray)(l:List UInt8)(hl:s.data.toList=l)(size:Nat)(hs:l.length < 64)(hz:size ≤ 140737488355328)(w:World) :
  Calls Tryz.prog 155 #[.string s,.int .i64 (size:Int)] w fun e w' => e=.returned (.string (Str (S.tail l size)))∧Below w.heap.size w w' := by
 have hsz:s.size=l.length:=by rw [← hl]; simp
 have hsm:s.size ≤ maxLen:=by unfold maxLen; omega
 obtain ⟨cap,w2,hcv,hc,hmax,bw,hlt⟩:=aC0 w s l hl hsm;have G0:=Hd (GrownS.start hc);go_enter Tryz.func155,Tryz.ntmps155
 go_wp2_with (at_builtin; refine cB _ rfl _ _ rfl hc rfl (G0.out.alloc hc _) ⟨w2.heap.size,0,none⟩ 1 0x80 rfl ?c1 ?c2 ?_)
 case c1=>simp [vbS]
 case c2=>simp; omega
 intro v1 w3 G1;obtain ⟨base1,c1,rfl⟩:=G1.shape;have HG1:=Hd G1;clear G0 G1
 have hZ:∀ m:Nat,m ≤ S.zeros l.length → (((l.length:Int) + 1 + (m:Int)) % 64=56 ↔ m=S.zeros l.length):=by
  intro m hm;unfold S.zeros at hm ⊢;omega
 have hZ64:S.zeros l.length < 64:=by unfold S.zeros; omega
 have HZ:=Hd hZ;clear hZ;go_wp2_with fail
 go_loopg [5] (S.zeros l.length)(fun k v wr=>∃ (m:Nat)(base:Option Addr)(c:Nat),m ≤ S.zeros l.length∧k=S.zeros l.length - m∧v=.slice base (l.length + (m + 1)) c∧Hid (GrownS w2 w.heap.size cap l wr v (0x80 :: List.replicate m 0)))
 case atStart=>exact ⟨0,base1,c1,Nat.zero_le _,rfl,rfl,HG1⟩
 case round =>
  obtain ⟨m,base,c,hm,rfl,rfl,G⟩:=hrel
  by_cases hmz:m=S.zeros l.length
  ·have hcond:((l.length:Int) + ((m:Int) + 1)) % 64=56:=by have:=(HZ.out m hm).2 hmz; omega
   go_wp2_with fail;clear hcond;subst hmz;generalize (((l.length:Int) + (((S.zeros l.length:Nat):Int) + 1)) % 64 != 56)=bb
   go_loopg [5,22] 8 (fun k v i wr=>∃ (j:Nat)(base:Option Addr)(c:Nat),j ≤ 8∧k=8 - j∧i=.int .i64 (j:Int)∧v=.slice base (l.length + (S.zeros l.length + 1 + j)) c∧Hid (GrownS w2 w.heap.size cap l wr v (tkS (S.zeros l.length)(size * 8) j)))
   case atStart =>
    refine ⟨0,base,c,by omega,rfl,rfl,rfl,Hd ?_⟩;rw [JU];exact G.out
   case round =>
    obtain ⟨j,base,c,hj,rfl,rfl,rfl,G⟩:=hrel
    by_cases hj8:j < 8
    ·obtain rfl | rfl | rfl | rfl | rfl | rfl | rfl | rfl:j=0 ∨ j=1 ∨ j=2 ∨ j=3 ∨ j=4 ∨ j=5 ∨ j=6 ∨ j=7:=by omega
     ·have hby:vbS (UInt8.ofNat (size * 8 / 256 ^ (7 - 0) % 256))=.int .u8 ((size:Int) * 8 / 72057594037927936 % 256):=by
       rw [gV _ (by omega)]; congr 1
      have STEP:=Hd (dD (S.zeros l.length)(size * 8) 0 (by omega));have LEN:=Hd (bQ (S.zeros l.length)(size * 8) 1 (by omega))
      go_wp2_with (at_builtin; refine cB _ rfl _ _ rfl hc rfl (G.out.alloc hc _) ⟨wr.heap.size,0,none⟩ 1 (UInt8.ofNat (size * 8 / 256 ^ (7 - 0) % 256)) rfl ?c1 ?c2 ?_)
      case c1=>rw [hby]; simp <;> omega
      case c2=>have:=bQ (S.zeros l.length)(size * 8) 0 (by omega); omega
      intro v' w' G';rw [STEP.out] at G';obtain ⟨base', c', rfl⟩:=G'.shape;rw [LEN.out] at G';rw [LEN.out];go_wp2_with fail
      go_roundg (8 - (0 + 1))
      case measure=>omega
      case rel=>exact ⟨0 + 1,base', c', by omega,rfl,rfl,rfl,Hd G'⟩
     ·have hby:vbS (UInt8.ofNat (size * 8 / 256 ^ (7 - 1) % 256))=.int .u8 ((size:Int) * 8 / 281474976710656 % 256):=by
       rw [gV _ (by omega)]; congr 1
      have STEP:=Hd (dD (S.zeros l.length)(size * 8) 1 (by omega));have LEN:=Hd (bQ (S.zeros l.length)(size * 8) 2 (by omega))
      go_wp2_with (at_builtin; refine cB _ rfl _ _ rfl hc rfl (G.out.alloc hc _) ⟨wr.heap.size,0,none⟩ 1 (UInt8.ofNat (size * 8 / 256 ^ (7 - 1) % 256)) rfl ?c1 ?c2 ?_)
      case c1=>rw [hby]; simp <;> omega
      case c2=>have:=bQ (S.zeros l.length)(size * 8) 1 (by omega); omega
      intro v' w' G';rw [STEP.out] at G';obtain ⟨base', c', rfl⟩:=G'.shape;rw [LEN.out] at G';rw [LEN.out];go_wp2_with fail
      go_roundg (8 - (1 + 1))
      case measure=>omega
      case rel=>exact ⟨1 + 1,base', c', by omega,rfl,rfl,rfl,Hd G'⟩
     ·have hby:vbS (UInt8.ofNat (size * 8 / 256 ^ (7 - 2) % 256))=.int .u8 ((size:Int) * 8 / 1099511627776 % 256):=by
       rw [gV _ (by omega)]; congr 1
      have STEP:=Hd (dD (S.zeros l.length)(size * 8) 2 (by omega));have LEN:=Hd (bQ (S.zeros l.length)(size * 8) 3 (by omega))
      go_wp2_with (at_builtin; refine cB _ rfl _ _ rfl hc rfl (G.out.alloc hc _) ⟨wr.heap.size,0,none⟩ 1 (UInt8.ofNat (size * 8 / 256 ^ (7 - 2) % 256)) rfl ?c1 ?c2 ?_)
      case c1=>rw [hby]; simp <;> omega
      case c2=>have:=bQ (S.zeros l.length)(size * 8) 2 (by omega); omega
      intro v' w' G';rw [STEP.out] at G';obtain ⟨base', c', rfl⟩:=G'.shape;rw [LEN.out] at G';rw [LEN.out];go_wp2_with fail
      go_roundg (8 - (2 + 1))
      case measure=>omega
      case rel=>exact ⟨2 + 1,base', c', by omega,rfl,rfl,rfl,Hd G'⟩
     ·have hby:vbS (UInt8.ofNat (size * 8 / 256 ^ (7 - 3) % 256))=.int .u8 ((size:Int) * 8 / 4294967296 % 256):=by
       rw [gV _ (by omega)]; congr 1
      have STEP:=Hd (dD (S.zeros l.length)(size * 8) 3 (by omega));have LEN:=Hd (bQ (S.zeros l.length)(size * 8) 4 (by omega))
      go_wp2_with (at_builtin; refine cB _ rfl _ _ rfl hc rfl (G.out.alloc hc _) ⟨wr.heap.size,0,none⟩ 1 (UInt8.ofNat (size * 8 / 256 ^ (7 - 3) % 256)) rfl ?c1 ?c2 ?_)
      case c1=>rw [hby]; simp <;> omega
      case c2=>have:=bQ (S.zeros l.length)(size * 8) 3 (by omega); omega
      intro v' w' G';rw [STEP.out] at G';obtain ⟨base', c', rfl⟩:=G'.shape;rw [LEN.out] at G';rw [LEN.out];go_wp2_with fail
      go_roundg (8 - (3 + 1))
      case measure=>omega
      case rel=>exact ⟨3 + 1,base', c', by omega,rfl,rfl,rfl,Hd G'⟩
     ·have hby:vbS (UInt8.ofNat (size * 8 / 256 ^ (7 - 4) % 256))=.int .u8 ((size:Int) * 8 / 16777216 % 256):=by
       rw [gV _ (by omega)]; congr 1
      have STEP:=Hd (dD (S.zeros l.length)(size * 8) 4 (by omega));have LEN:=Hd (bQ (S.zeros l.length)(size * 8) 5 (by omega))
      go_wp2_with (at_builtin; refine cB _ rfl _ _ rfl hc rfl (G.out.alloc hc _) ⟨wr.heap.size,0,none⟩ 1 (UInt8.ofNat (size * 8 / 256 ^ (7 - 4) % 256)) rfl ?c1 ?c2 ?_)
      case c1=>rw [hby]; simp <;> omega
      case c2=>have:=bQ (S.zeros l.length)(size * 8) 4 (by omega); omega
      intro v' w' G';rw [STEP.out] at G';obtain ⟨base', c', rfl⟩:=G'.shape;rw [LEN.out] at G';rw [LEN.out];go_wp2_with fail
      go_roundg (8 - (4 + 1))
      case measure=>omega
      case rel=>exact ⟨4 + 1,base', c', by omega,rfl,rfl,rfl,Hd G'⟩
     ·have hby:vbS (UInt8.ofNat (size * 8 / 256 ^ (7 - 5) % 256))=.int .u8 ((size:Int) * 8 / 65536 % 256):=by
       rw [gV _ (by omega)]; congr 1
      have STEP:=Hd (dD (S.zeros l.length)(size * 8) 5 (by omega));have LEN:=Hd (bQ (S.zeros l.length)(size * 8) 6 (by omega))
      go_wp2_with (at_builtin; refine cB _ rfl _ _ rfl hc rfl (G.out.alloc hc _) ⟨wr.heap.size,0,none⟩ 1 (UInt8.ofNat (size * 8 / 256 ^ (7 - 5) % 256)) rfl ?c1 ?c2 ?_)
      case c1=>rw [hby]; simp <;> omega
      case c2=>have:=bQ (S.zeros l.length)(size * 8) 5 (by omega); omega
      intro v' w' G';rw [STEP.out] at G';obtain ⟨base', c', rfl⟩:=G'.shape;rw [LEN.out] at G';rw [LEN.out];go_wp2_with fail
      go_roundg (8 - (5 + 1))
      case measure=>omega
      case rel=>exact ⟨5 + 1,base', c', by omega,rfl,rfl,rfl,Hd G'⟩
     ·have hby:vbS (UInt8.ofNat (size * 8 / 256 ^ (7 - 6) % 256))=.int .u8 ((size:Int) * 8 / 256 % 256):=by
       rw [gV _ (by omega)]; congr 1
      have STEP:=Hd (dD (S.zeros l.length)(size * 8) 6 (by omega));have LEN:=Hd (bQ (S.zeros l.length)(size * 8) 7 (by omega))
      go_wp2_with (at_builtin; refine cB _ rfl _ _ rfl hc rfl (G.out.alloc hc _) ⟨wr.heap.size,0,none⟩ 1 (UInt8.ofNat (size * 8 / 256 ^ (7 - 6) % 256)) rfl ?c1 ?c2 ?_)
      case c1=>rw [hby]; simp <;> omega
      case c2=>have:=bQ (S.zeros l.length)(size * 8) 6 (by omega); omega
      intro v' w' G';rw [STEP.out] at G';obtain ⟨base', c', rfl⟩:=G'.shape;rw [LEN.out] at G';rw [LEN.out];go_wp2_with fail
      go_roundg (8 - (6 + 1))
      case measure=>omega
      case rel=>exact ⟨6 + 1,base', c', by omega,rfl,rfl,rfl,Hd G'⟩
     ·have hby:vbS (UInt8.ofNat (size * 8 % 256))=.int .u8 ((size:Int) * 8 % 256):=by
       rw [gV _ (by omega)]; congr 1
      have STEP:=Hd (by have:=dD (S.zeros l.length)(size * 8) 7 (by omega); simpa using this:tkS (S.zeros l.length)(size * 8) 7 ++ [UInt8.ofNat (size * 8 % 256)]=tkS (S.zeros l.length)(size * 8) 8);have LEN:=Hd (bQ (S.zeros l.length)(size * 8) 8 (by omega))
      go_wp2_with (at_builtin; refine cB _ rfl _ _ rfl hc rfl (G.out.alloc hc _) ⟨wr.heap.size,0,none⟩ 1 (UInt8.ofNat (size * 8 % 256)) rfl ?c1 ?c2 ?_)
      case c1=>rw [hby]; simp <;> omega
      case c2=>have:=bQ (S.zeros l.length)(size * 8) 7 (by omega); omega
      intro v' w' G';rw [STEP.out] at G';obtain ⟨base', c', rfl⟩:=G'.shape;rw [LEN.out] at G';rw [LEN.out];go_wp2_with fail
      go_roundg (8 - (7 + 1))
      case measure=>omega
      case rel=>exact ⟨7 + 1,base', c', by omega,rfl,rfl,rfl,Hd G'⟩
    ·obtain rfl:j=8:=by omega
     have hcv2:=G.out.conv hc hmax (by rw [bQ _ _ _ (by omega)]; omega);rw [YX] at hcv2;go_wp2_with fail;go_ret;exact ⟨rfl,bw.trans ((G.out.below (Nat.le_of_lt hlt)).mono (Nat.le_refl _))⟩
  ·have hcond:¬ (((l.length:Int) + ((m:Int) + 1)) % 64=56):=by
    intro h;exact hmz ((HZ.out m hm).1 (by omega))
   go_wp2_with (at_builtin; refine cB _ rfl _ _ rfl hc rfl (G.out.alloc hc _) ⟨wr.heap.size,0,none⟩ 1 0 rfl ?c1 ?c2 ?_)
   case c1=>simp [vbS]
   case c2=>simp; omega
   intro v' w' G';obtain ⟨base', c', rfl⟩:=G'.shape;go_wp2_with fail
   go_roundg (S.zeros l.length - (m + 1))
   case measure=>omega
   case rel =>
    refine ⟨m + 1,base', c', by omega,rfl,by simp,Hd ?_⟩;rw [← List.replicate_succ'] at G'
    simpa using G'
def SB (p:List UInt8)(n:Nat):List Nat:=(S.blocks p n).list
theorem eT (p:List UInt8)(n:Nat):(SB p n).length=8:=rfl
theorem pY (p:List UInt8)(n:Nat):(S.blocks p n).ok:=by
 cases n with
 | zero=>unfold S.blocks S.HS S.St.ok; decide
 | succ n=>exact S.plus_ok _ _
theorem aCA (p:List UInt8)(n:Nat):∀ x ∈ SB p n,x < 4294967296:=by
 have h:=pY p n;obtain ⟨a,b,c,d,e,f,g,i⟩:=h;intro x hx;simp only [SB,S.St.list,List.mem_cons,List.not_mem_nil,or_false] at hx
 rcases hx with rfl | rfl | rfl | rfl | rfl | rfl | rfl | rfl <;> assumption
theorem yI (p:List UInt8)(n:Nat)(b:ByteArray)(gk:Nat)(w:World)(h:b.data.toList=(p.drop (64 * n)).take 64)(hb:b.size=64)(hk:Arr 224 w gk S.KS) :
  Calls Tryz.prog 154 #[.agg (U (SB p n)),.pointer (some ⟨gk,0,none⟩),.string b] w fun e w' => e=.returned (.agg (U (SB p (n + 1))))∧Below w.heap.size w w' := by
 have:=SO (S.blocks p n) b gk w hb hk (pY p n);rw [h] at this;exact this
structure Two (w:World)(g:Nat)(L:List Nat)(w0:World):Prop where
 st:Arr 221 w g L
 ks:Arr 224 w (g + 1) S.KS
 below:Below w0.heap.size w0 w
 ge:w0.heap.size ≤ g
theorem Two.lt {w:World} {g:Nat} {L:List Nat} {w0:World} (h:Two w g L w0):g + 1 < w.heap.size:=h.ks.lt
theorem Two.drew {w:World} {g:Nat} {L:List Nat} {w0:World} (h:Two w g L w0):Two w.drew g L w0:=⟨h.st,h.ks,h.below.drew,h.ge⟩
theorem Two.then {w w' : World} {g:Nat} {L:List Nat} {w0:World} (h:Two w g L w0)(hb:Below w.heap.size w w'):Two w' g L w0:=⟨h.st.below hb,h.ks.below hb,h.below.trans (hb.mono h.below.size),h.ge⟩
theorem Two.alloc {w:World} {g:Nat} {L:List Nat} {w0:World} (h:Two w g L w0)(o:Obj):Two (w.alloc o) g L w0:=⟨h.st.alloc o,h.ks.alloc o,h.below.alloc h.below.size o,h.ge⟩
theorem Two.row {w:World} {g:Nat} {L:List Nat} {w0:World} (h:Two w g L w0)(m:List Nat):Two (w.setRow g (U m)) g m w0:=⟨h.st.row m,h.ks.otherRow _ _ (by omega),below_setRow h.below h.ge _,h.ge⟩
theorem Two.load {w:World} {g:Nat} {L:List Nat} {w0:World} (h:Two w g L w0)(hl:L.length=8):(loadVar 221 ⟨g,0,none⟩).run Tryz.prog w=.ok (.agg (U L)) w :=
 run_loadVar_row w g 221 221 (U L)(0,0) _ h.st Tryz.underlying221 rfl (by rw [bP,hl]; exact gE)
theorem jP {P:Program} {ops:Array Oper} {w:World} {Q:Act → Prop} {rest:List Oper} {o:Oper} {a:Act} (hgd:o.guard=none)(ty:TypeId)(x:Operand)(ho:o.op=.load ty x)
  (g:Nat)(hx:a.eval x=.pointer (some ⟨g,0,none⟩))(cs:Array Value)(hld:(loadVar ty ⟨g,0,none⟩).run P w=.ok (.agg cs) w)
  (h:wpStill P ops w Q rest (a.put o.dst (.agg cs))):wpStill P ops w Q (o :: rest) a:=by
 unfold wpStill;rw [if_pos (by simp [Region.wanted,hgd])];unfold Oper.still execOp;simp only [ho,hx,Instr.loadAt,Instr.sureAddr,Sem.run_bind,Sem.run_pure,Result.andThen_ok,hld];exact ⟨rfl,h⟩
theorem vS (s:ByteArray)(l:List UInt8)(hl:s.data.toList=l)(n:Nat)(hn:n < l.length / 64):(s.extract (n * 64)((n + 1) * 64)).data.toList=(l.drop (64 * n)).take 64:=by
 rw [ByteArray.data_extract,Array.toList_extract,List.extract_eq_take_drop,hl,Nat.mul_comm n 64]
 congr 1
 omega
theorem wT (l:List UInt8)(n:Nat)(hn:n < l.length / 64):((S.padded l).drop (64 * n)).take 64=(l.drop (64 * n)).take 64:=by
 unfold S.padded;rw [List.drop_append_of_le_length (by simp; omega),List.take_append_of_le_length (by simp; omega),List.drop_take,List.take_take]
 congr 1
 omega
theorem aBK (F:List Nat):∀ (q r:Nat),r < 4 → (hq:q < F.length) → ((F.map (M.be 4)).flatten)[4 * q + r]?=some (UInt8.ofNat (F[q] / 256 ^ (3 - r) % 256)):=by
 induction F with
 | nil=>intro q r _ hq; simp at hq
 | cons a F ih =>
  intro q r hr hq;rw [List.map_cons,List.flatten_cons]
  cases q with
  | zero =>
   rw [List.getElem?_append_left (by rw [M.be_length]; omega),Nat.mul_zero,Nat.zero_add,M.be_get 4 a r hr]
   rfl
  | succ q =>
   rw [List.getElem?_append_right (by rw [M.be_length]; omega),M.be_length,show 4 * (q + 1) + r - 4=4 * q + r by omega,ih q r hr (by simpa using hq)]
   rfl
theorem tR (F:List Nat):((F.map (M.be 4)).flatten).length=4 * F.length:=by
 induction F with
 | nil=>rfl
 | cons a F ih=>rw [List.map_cons,List.flatten_cons,List.length_append,ih,M.be_length,List.length_cons]; omega
def ByS (l:List UInt8):Array Value:=(l.map vbS).toArray
def BytS (T:TypeId)(w:World)(g:Nat)(l:List UInt8):Prop:=w.heap[g]?=some (.cells (ByS l) T (0,0))
theorem BytS.cell {T:TypeId} {w:World} {g:Nat} {l:List UInt8} (h:BytS T w g l)(j:Nat)(hj:j < l.length):w.cell? ⟨g,j,none⟩=some (vbS l[j]):=by
 rw [cell_of_row w g j _ T _ h];simp [ByS,List.getElem?_eq_getElem hj]
theorem BytS.free {T:TypeId} {w:World} {g:Nat} {l:List UInt8} (h:BytS T w g l)(j:Nat):w.frozen? ⟨g,j,none⟩=false:=frozen_of_row w g j _ T h
theorem BytS.set {T:TypeId} {w:World} {g:Nat} {l:List UInt8} (h:BytS T w g l)(j:Nat)(v:UInt8):BytS T (w.setCell ⟨g,j,none⟩ (vbS v)) g (l.set j v):=by
 unfold BytS;rw [hss w g j _ T _ h]
 congr 2
 apply Array.ext';simp [ByS,List.map_set]
theorem Two.set {w:World} {g:Nat} {L:List Nat} {w0:World} (h:Two w g L w0)(k j:Nat)(v:Value)(hk:g + 1 < k):Two (w.setCell ⟨k,j,none⟩ v) g L w0 :=
 ⟨h.st.other _ _ (by simp; omega),h.ks.other _ _ (by simp; omega),h.below.setCell (by have:=h.ge; simp; omega) _,h.ge⟩
def mZ (L:List UInt8)(n:Nat):List UInt8:=L.take n ++ List.replicate (32 - n) 0
theorem zL (L:List UInt8)(hL:L.length=32)(n:Nat)(hn:n ≤ 32):(mZ L n).length=32:=by
 unfold mZ; simp; omega
theorem oB (L:List UInt8)(hL:L.length=32)(n:Nat)(hn:n < 32)(b:UInt8)(hb:L[n]?=some b):(mZ L n).set n b=mZ L (n + 1):=by
 unfold mZ;rw [List.set_append_right _ _ (by rw [List.length_take]; omega),List.take_add_one,hb];have e1:n - (L.take n).length=0:=by simp; omega
 rw [e1,show 32 - n=(32 - (n + 1)) + 1 by omega,List.replicate_succ,List.set_cons_zero];simp
theorem UI (L:List UInt8)(hL:L.length=32):mZ L 32=L:=by
 unfold mZ; simp [List.take_of_length_le (Nat.le_of_eq hL)]
theorem MX (s:ByteArray)(l:List UInt8)(hl:s.data.toList=l):(s.extract (l.length / 64 * 64) l.length).data.toList=l.drop (l.length / 64 * 64):=by
 rw [ByteArray.data_extract,Array.toList_extract,List.extract_eq_take_drop,hl];rw [List.take_of_length_le (by simp)]
theorem uT (l E:List UInt8)(hE:S.tail (l.drop (l.length / 64 * 64)) l.length=E):E.length % 64=0∧E.length ≤ 128∧(S.padded l).length / 64=l.length / 64 + E.length / 64:=by
 have h1:(S.padded l).length=l.length / 64 * 64 + E.length:=by
  unfold S.padded;rw [hE,List.length_append,List.length_take];omega
 have h2:E.length=l.length % 64 + 1 + S.zeros (l.length % 64) + 8:=by
  rw [← hE];unfold S.tail;simp only [List.length_append,List.length_drop,List.length_cons,List.length_nil,List.length_replicate,M.be_length];rw [show l.length - l.length / 64 * 64=l.length % 64 by omega]
 unfold S.zeros at h2;omega
theorem QW (l E:List UInt8)(hE:S.tail (l.drop (l.length / 64 * 64)) l.length=E)(n:Nat):((S.padded l).drop (64 * (l.length / 64 + n))).take 64=(E.drop (64 * n)).take 64:=by
 unfold S.padded;rw [hE,List.drop_append,List.drop_of_length_le (by rw [List.length_take]; omega),List.nil_append,List.length_take]
 congr 2
 omega
theorem TF (s:ByteArray)(l:List UInt8)(hl:s.data.toList=l)(hz:s.size ≤ 140737488355328)(w:World)(L:List UInt8)(HL:Hid (S.sum l=L)) :
  Calls Tryz.prog 130 #[.string s] w fun e w' => e=.returned (.string (Str L))∧Below w.heap.size w w' := by
 have hsz:s.size=l.length:=by rw [← hl]; simp
 go_enter Tryz.func130,Tryz.ntmps130;go_wp2_with fail;refine (QP _).mono ?_;rintro e w1 ⟨rfl,b1⟩;go_wp2_with fail;refine (MY _).mono ?_;rintro e w2 ⟨rfl,b2⟩;have bb:Below w.heap.size w w2:=b1.trans (b2.mono b1.size);have hA:Hid (Arr 221 ((w2.alloc (.cells (U bH) 221)).alloc (.cells (U (bV [])) 224)) w2.heap.size bH):=Hd ((Arr.new w2 bH).alloc _)
 have hB:Hid (Arr 224 ((w2.alloc (.cells (U bH) 221)).alloc (.cells (U (bV [])) 224))(w2.heap.size + 1)(bV [])):=Hd (by
  have:=Arr.new (T:=224)(w2.alloc (.cells (U bH) 221))(bV []);rwa [show (w2.alloc (.cells (U bH) 221)).heap.size=w2.heap.size + 1 by simp] at this)
 have ins:Hid ((Tryz.prog.info? 221).map (·.size)=some (U S.HS.list).size):=Hd (by rw [bP]; kernel_rfl);have ols:Hid ((U bH).size=(U S.HS.list).size):=Hd (by rw [bP,bP]; rfl);have ons:Hid ((U S.HS.list).all (·.oneCell')=true):=Hd (mT _);have hB2:Hid (Arr 224 (((w2.alloc (.cells (U bH) 221)).alloc (.cells (U (bV [])) 224)).setRow w2.heap.size (U S.HS.list))(w2.heap.size + 1)(bV [])):=Hd (hB.out.otherRow _ _ (by omega));have ink:Hid ((Tryz.prog.info? 224).map (·.size)=some (U S.KS).size):=Hd (by rw [bP]; kernel_rfl)
 have olk:Hid ((U (bV [])).size=(U S.KS).size):=Hd (by rw [bP,bP]; rfl);have onk:Hid ((U S.KS).all (·.oneCell')=true):=Hd (mT _)
 go_upto_region 1 with (first | refine wpList_store_row rfl 224 (.tmp 4)(.tmp 12) rfl (w2.heap.size + 1)(U S.KS) rfl rfl 224 (U (bV [])) hB2.out ink.out olk.out onk.out ?_ | refine wpList_store_row rfl 221 (.tmp 3)(.tmp 11) rfl w2.heap.size (U S.HS.list) rfl rfl 221 (U bH) hA.out ins.out ols.out ons.out ?_)
 generalize hw3:World.setRow _ _ _=w3
 have HT:Hid (Two w3 w2.heap.size (SB (S.padded l) 0) w):=Hd (by
  rw [← hw3];exact ⟨(hA.out.row S.HS.list).otherRow _ _ (by omega),hB2.out.row S.KS,below_setRow (below_setRow ((bb.alloc bb.size _).alloc (by have:=bb.size; simp; omega) _) bb.size _)(by have:=bb.size; omega) _,bb.size⟩)
 clear hA hB ins ols ons hB2 ink olk onk hw3 b1 b2 bb;generalize w2.heap.size=g at *
 go_loopw [17] (fun i wr=>∃ n:Nat,n ≤ l.length / 64∧i=.int .i64 (n:Int)∧Hid (Two wr g (SB (S.padded l) n) w))(fun i _=>l.length / 64 + 1 - (intOf i).toNat)
 case atStart=>exact ⟨0,by omega,rfl,HT⟩
 case round =>
  obtain ⟨n,hn,rfl,HY⟩:=hrel
  by_cases hlt:n < l.length / 64
  ·have hli:(n:Int) < (s.size:Int) / 64:=by omega
   have hld:=HY.out.drew.load (eT _ _);go_wp2_with fail;have k1:IntKind.i64.wrap ((n:Int) * 64)=(n:Int) * 64:=by rw [IntKind.wrap_i64]; omega
   have k2:IntKind.i64.wrap ((n:Int) + 1)=(n:Int) + 1:=by rw [IntKind.wrap_i64]; omega
   have k3:IntKind.i64.wrap (((n:Int) + 1) * 64)=((n:Int) + 1) * 64:=by rw [IntKind.wrap_i64]; omega
   have k4:0 ≤ ((n:Int) + 1) * 64∧((n:Int) + 1) * 64 ≤ (l.length:Int):=by omega
   have k5:0 ≤ (n:Int) * 64∧(n:Int) * 64 ≤ ((n:Int) + 1) * 64:=by omega
   have k6:((n:Int) * 64).toNat=n * 64:=by omega
   have k7:(((n:Int) + 1) * 64).toNat=(n + 1) * 64:=by omega
   have k8:(n:Int) ≤ (n:Int) + 1:=by omega
   refine wp_region_still_tail 8 (by kernel_rfl)(by kernel_rfl) ?_;simp only [List.take_succ_cons,List.take_zero,List.drop_succ_cons,List.drop_zero];refine jP rfl 221 (.tmp 3) rfl g rfl _ hld ?_
   still_step
   still_step
   still_step
   still_step
   still_step
   still_step
   still_step
   clear k1 k2 k3 k4 k5 k6 k7 k8;refine wpStill_nil ?_;have hcb:=vS s l hl n hlt;have hcz:(s.extract (n * 64)((n + 1) * 64)).size=64:=by rw [ByteArray.size_extract]; omega
   generalize s.extract (n * 64)((n + 1) * 64)=blk at *;change wpList _ _ _ _ _ wr.drew;go_wp2_with fail;refine (yI (S.padded l) n blk (g + 1) _ (by rw [hcb,wT l n hlt]) hcz HY.out.drew.ks).mono ?_;rintro e w4 ⟨rfl,b4⟩;have HY4:=Hd (HY.out.drew.then b4);have FIN:=Hd (HY4.out.row (SB (S.padded l)(n + 1)));have in8:Hid ((Tryz.prog.info? 221).map (·.size)=some (U (SB (S.padded l)(n + 1))).size):=Hd (by rw [bP,eT]; exact gE)
   have ol8:Hid ((U (SB (S.padded l) n)).size=(U (SB (S.padded l)(n + 1))).size):=Hd (by rw [bP,bP,eT,eT]);have on8:Hid ((U (SB (S.padded l)(n + 1))).all (·.oneCell')=true):=Hd (mT _);clear hld hcb hcz HY
   go_wp2_with (refine wpList_store_row rfl 221 (.tmp 3)(.tmp 28) rfl g (U (SB (S.padded l)(n + 1))) rfl rfl 221 (U (SB (S.padded l) n)) HY4.out.st in8.out ol8.out on8.out ?_)
   go_roundw
   case rel=>exact ⟨n + 1,by omega,by go_num,FIN⟩
   case measure=>simp [intOf]; omega
  ·obtain rfl:n=l.length / 64:=by omega
   have hli:¬ (((l.length / 64:Nat):Int) < (l.length:Int) / 64):=by omega
   have htl:=MX s l hl;generalize hE:S.tail (l.drop (l.length / 64 * 64)) l.length=E at *;have hEl:Hid (E.length % 64=0∧E.length ≤ 128∧(S.padded l).length / 64=l.length / 64 + E.length / 64):=Hd (uT l E hE);have hEb:=Hd (QW l E hE);go_wp2_with fail;refine (MW _ (l.drop (l.length / 64 * 64)) htl l.length (by rw [List.length_drop]; omega)(by omega) _).mono ?_;rw [hE];obtain ⟨eb,heb⟩:∃ eb,Str E=eb:=⟨_,rfl⟩
   rw [heb];have hed:Hid (eb.data.toList=E):=Hd (by rw [← heb,aP]);have hez:Hid (eb.size=E.length):=Hd (by rw [← heb,aK]);clear heb htl hE hlt hli hn;rintro e w4 ⟨rfl,b4⟩;have HY4:=Hd (HY.out.then b4);clear HY b4;have hb128:(eb.size:Int) ≤ 128:=by have:=hez.out; have:=hEl.out.2.1; omega
   go_wp2_with fail
   go_loopw [40] (fun i wr=>∃ n:Nat,n ≤ E.length / 64∧i=.int .i64 (n:Int)∧Hid (Two wr g (SB (S.padded l)(l.length / 64 + n)) w))(fun i _=>E.length / 64 + 1 - (intOf i).toNat)
   case atStart=>exact ⟨0,by omega,rfl,HY4⟩
   case round =>
    obtain ⟨n,hn,rfl,HY⟩:=hrel
    by_cases hlt:n < E.length / 64
    ·have hli:(n:Int) < (eb.size:Int) / 64:=by rw [hez.out]; omega
     have hld:=HY.out.drew.load (eT _ _);go_wp2_with fail;have k1:IntKind.i64.wrap ((n:Int) * 64)=(n:Int) * 64:=by rw [IntKind.wrap_i64]; omega
     have k2:IntKind.i64.wrap ((n:Int) + 1)=(n:Int) + 1:=by rw [IntKind.wrap_i64]; omega
     have k3:IntKind.i64.wrap (((n:Int) + 1) * 64)=((n:Int) + 1) * 64:=by rw [IntKind.wrap_i64]; omega
     have k4:0 ≤ ((n:Int) + 1) * 64∧((n:Int) + 1) * 64 ≤ (eb.size:Int):=by omega
     have k5:0 ≤ (n:Int) * 64∧(n:Int) * 64 ≤ ((n:Int) + 1) * 64:=by omega
     have k6:((n:Int) * 64).toNat=n * 64:=by omega
     have k7:(((n:Int) + 1) * 64).toNat=(n + 1) * 64:=by omega
     have k8:(n:Int) ≤ (n:Int) + 1:=by omega
     refine wp_region_still_tail 8 (by kernel_rfl)(by kernel_rfl) ?_;simp only [List.take_succ_cons,List.take_zero,List.drop_succ_cons,List.drop_zero];refine jP rfl 221 (.tmp 3) rfl g rfl _ hld ?_
     still_step
     still_step
     still_step
     still_step
     still_step
     still_step
     still_step
     clear k1 k2 k3 k4 k5 k6 k7 k8;refine wpStill_nil ?_;have hcb:=vS eb E hed.out n hlt;have hcz:(eb.extract (n * 64)((n + 1) * 64)).size=64:=by rw [ByteArray.size_extract,hez.out]; omega
     generalize eb.extract (n * 64)((n + 1) * 64)=blk at *;change wpList _ _ _ _ _ wr.drew;go_wp2_with fail;refine (yI (S.padded l)(l.length / 64 + n) blk (g + 1) _ (by rw [hcb,hEb.out n]) hcz HY.out.drew.ks).mono ?_;rintro e w5 ⟨rfl,b5⟩;have HY5:=Hd (HY.out.drew.then b5);have FIN:=Hd (HY5.out.row (SB (S.padded l)(l.length / 64 + n + 1)));have in8:Hid ((Tryz.prog.info? 221).map (·.size)=some (U (SB (S.padded l)(l.length / 64 + n + 1))).size):=Hd (by rw [bP,eT]; exact gE)
     have ol8:Hid ((U (SB (S.padded l)(l.length / 64 + n))).size=(U (SB (S.padded l)(l.length / 64 + n + 1))).size):=Hd (by rw [bP,bP,eT,eT]);have on8:Hid ((U (SB (S.padded l)(l.length / 64 + n + 1))).all (·.oneCell')=true):=Hd (mT _);clear hld hcb hcz HY
     go_wp2_with (refine wpList_store_row rfl 221 (.tmp 3)(.tmp 51) rfl g (U (SB (S.padded l)(l.length / 64 + n + 1))) rfl rfl 221 (U (SB (S.padded l)(l.length / 64 + n))) HY5.out.st in8.out ol8.out on8.out ?_)
     go_roundw
     case rel=>exact ⟨n + 1,by omega,by go_num,FIN⟩
     case measure=>simp [intOf]; omega
    ·obtain rfl:n=E.length / 64:=by omega
     have hli:¬ (((E.length / 64:Nat):Int) < (eb.size:Int) / 64):=by rw [hez.out]; omega
     have HZ:Hid (Two wr g (SB (S.padded l)((S.padded l).length / 64)) w):=Hd (by rw [hEl.out.2.2]; exact HY.out);clear HY HY4;have hF:Hid (∀ x ∈ SB (S.padded l)((S.padded l).length / 64),x < 4294967296):=Hd (aCA _ _);have hL2:Hid (((SB (S.padded l)((S.padded l).length / 64)).map (M.be 4)).flatten=L):=Hd HL.out;have hF8:Hid ((SB (S.padded l)((S.padded l).length / 64)).length=8):=Hd (eT _ _);generalize SB (S.padded l)((S.padded l).length / 64)=F at *;go_wp2_with fail;have hL32:L.length=32:=by rw [← hL2.out,tR,hF8.out]
     generalize decide ((E.length:Int) / 64 < (eb.size:Int) / 64)=bq;have hk:=Hd HZ.out.lt;have HB:Hid (Two (wr.alloc (.cells (ByS (mZ L 0)) 229)) g F w∧BytS 229 (wr.alloc (.cells (ByS (mZ L 0)) 229)) wr.heap.size (mZ L 0)):=Hd ⟨HZ.out.alloc _,han wr _⟩;generalize wr.heap.size=k at *
     go_loopw [53] (fun i wr=>∃ n:Nat,n ≤ 32∧i=.int .i64 (n:Int)∧Hid (Two wr g F w∧BytS 229 wr k (mZ L n)))(fun i _=>33 - (intOf i).toNat)
     case atStart=>exact ⟨0,by omega,rfl,HB⟩
     case round =>
      obtain ⟨n,hn,rfl,HY⟩:=hrel;clear HZ HB
      by_cases hlt:n < 32
      ·have hli:(n:Int) < 32:=by omega
       have hqL:n / 4 < F.length:=by rw [hF8.out]; omega
       have hg:∀ r,r < 4 → n % 4=r → L[n]?=some (UInt8.ofNat (F[n / 4] / 256 ^ (3 - r) % 256)):=fun r hr e=>by
        have:=aBK F (n / 4) r hr hqL;rw [hL2.out,show 4 * (n / 4) + r=n by omega] at this;exact this
       have hx:=hF.out F[n / 4] (List.getElem_mem hqL);have c3:=HY.out.1.st.cell (n / 4) hqL;obtain ⟨ov,c9⟩:∃ ov,wr.cell? ⟨k,n,none⟩=some ov:=⟨_,HY.out.2.cell n (by rw [zL L hL32 n hn]; omega)⟩
       have f9:=HY.out.2.free n;generalize F[n / 4]=x at *;have hq:(n:Int) / 4=((n / 4:Nat):Int):=by omega
       have hq8:((n / 4:Nat):Int) < 8:=by omega
       generalize n / 4=q at *
       rcases (by omega:n % 4=0 ∨ n % 4=1 ∨ n % 4=2 ∨ n % 4=3) with hr | hr | hr | hr
       ·have hri:(n:Int) % 4=0:=by omega
        have hgr:=hg 0 (by omega) hr
        have hby:vbS (UInt8.ofNat (x / 256 ^ (3 - 0) % 256))=.int .u8 ((x:Int) / 16777216):=by
         rw [gV _ (by omega)]; congr 1; omega
        generalize UInt8.ofNat (x / 256 ^ (3 - 0) % 256)=bv at *
        have FIN:Hid (Two (wr.setCell ⟨k,n,none⟩ (vbS bv)) g F w∧BytS 229 (wr.setCell ⟨k,n,none⟩ (vbS bv)) k (mZ L (n + 1))):=Hd ⟨HY.out.1.set k n _ hk.out,by
         have:=HY.out.2.set n bv;rwa [oB L hL32 n hlt bv hgr] at this⟩
        rw [hby] at FIN;clear hg hgr hby HY hr hlt hqL;go_wp2_with fail;go_roundw
        case rel=>exact ⟨n + 1,by omega,by go_num,FIN⟩
        case measure=>simp [intOf]; omega
       ·have hri:(n:Int) % 4=1:=by omega
        have hgr:=hg 1 (by omega) hr
        have hby:vbS (UInt8.ofNat (x / 256 ^ (3 - 1) % 256))=.int .u8 ((x:Int) / 65536 % 256):=by
         rw [gV _ (by omega)]; congr 1
        generalize UInt8.ofNat (x / 256 ^ (3 - 1) % 256)=bv at *
        have FIN:Hid (Two (wr.setCell ⟨k,n,none⟩ (vbS bv)) g F w∧BytS 229 (wr.setCell ⟨k,n,none⟩ (vbS bv)) k (mZ L (n + 1))):=Hd ⟨HY.out.1.set k n _ hk.out,by
         have:=HY.out.2.set n bv;rwa [oB L hL32 n hlt bv hgr] at this⟩
        rw [hby] at FIN;clear hg hgr hby HY hr hlt hqL;go_wp2_with fail;go_roundw
        case rel=>exact ⟨n + 1,by omega,by go_num,FIN⟩
        case measure=>simp [intOf]; omega
       ·have hri:(n:Int) % 4=2:=by omega
        have hgr:=hg 2 (by omega) hr
        have hby:vbS (UInt8.ofNat (x / 256 ^ (3 - 2) % 256))=.int .u8 ((x:Int) / 256 % 256):=by
         rw [gV _ (by omega)]; congr 1
        generalize UInt8.ofNat (x / 256 ^ (3 - 2) % 256)=bv at *
        have FIN:Hid (Two (wr.setCell ⟨k,n,none⟩ (vbS bv)) g F w∧BytS 229 (wr.setCell ⟨k,n,none⟩ (vbS bv)) k (mZ L (n + 1))):=Hd ⟨HY.out.1.set k n _ hk.out,by
         have:=HY.out.2.set n bv;rwa [oB L hL32 n hlt bv hgr] at this⟩
        rw [hby] at FIN;clear hg hgr hby HY hr hlt hqL;go_wp2_with fail;go_roundw
        case rel=>exact ⟨n + 1,by omega,by go_num,FIN⟩
        case measure=>simp [intOf]; omega
       ·have hri:(n:Int) % 4=3:=by omega
        have hgr:=hg 3 (by omega) hr
        have hby:vbS (UInt8.ofNat (x / 256 ^ (3 - 3) % 256))=.int .u8 ((x:Int) % 256):=by
         rw [gV _ (by omega)]; congr 1; omega
        generalize UInt8.ofNat (x / 256 ^ (3 - 3) % 256)=bv at *
        have FIN:Hid (Two (wr.setCell ⟨k,n,none⟩ (vbS bv)) g F w∧BytS 229 (wr.setCell ⟨k,n,none⟩ (vbS bv)) k (mZ L (n + 1))):=Hd ⟨HY.out.1.set k n _ hk.out,by
         have:=HY.out.2.set n bv;rwa [oB L hL32 n hlt bv hgr] at this⟩
        rw [hby] at FIN;clear hg hgr hby HY hr hlt hqL;go_wp2_with fail;go_roundw
        case rel=>exact ⟨n + 1,by omega,by go_num,FIN⟩
        case measure=>simp [intOf]; omega
      ·obtain rfl:n=32:=by omega
       have hli:¬ (((32:Nat):Int) < 32):=by omega
       have hcv:(convert 31 9 (.slice (some ⟨k,0,none⟩) 32 32)).run Tryz.prog wr=.ok (.string (Str L)) wr:=by
        have:=run_convert_bytes_back (P:=Tryz.prog) wr 31 9 5 ⟨k,0,none⟩ 32 L Tryz.underlying31 Tryz.underlying5 Tryz.underlying9 (fun j hj=>by
         have h:=HY.out.2;rw [UI L hL32] at h;rw [bU]; simpa [vbS] using h.cell j hj)
        rw [hL32] at this;exact this
       go_wp2_with fail;go_ret;exact ⟨rfl,HY.out.1.below⟩
theorem ZC (s:ByteArray)(w:World)(hz:s.size ≤ 140737488355328) :
  Calls Tryz.prog 130 #[.string s] w fun e w' => e=.returned (.string (Str (S.sum s.data.toList)))∧Below w.heap.size w w' :=
 TF s _ rfl hz w _ (Hd rfl)
def pG (s:ByteArray):ByteArray:=Str (S.sum s.data.toList)
theorem EI (s:ByteArray)(w:World)(hz:s.size ≤ 140737488355328) :
  Calls Tryz.prog 130 #[.string s] w fun e w' => e=.returned (.string (pG s))∧Below w.heap.size w w' := ZC s w hz
theorem uI (s:S.St):(S.digest s).length=32:=by unfold S.digest; rw [tR]; rfl
theorem mA (s:ByteArray):(pG s).size=32:=by
 unfold pG S.sum; rw [aK,uI]
theorem kG (a b:Nat)(ha:a < 256)(hb:b < 256):bits .xor .u8 (a:Int)(b:Int)=((a ^^^ b:Nat):Int):=by
 have hx:a ^^^ b < 2 ^ 8:=Nat.xor_lt_two_pow (by omega)(by omega)
 have h8:∀ a:Nat,a < 256 → (BitVec.ofInt 8 (a:Int)).toNat=a:=fun a ha=>by
  rw [BitVec.ofInt_natCast,BitVec.toNat_ofNat]; exact Nat.mod_eq_of_lt (by omega)
 show IntKind.u8.wrap ((BitVec.ofInt 8 (a:Int) ^^^ BitVec.ofInt 8 (b:Int)).toNat:Int)=_
 rw [BitVec.toNat_xor,h8 a ha,h8 b hb,IntKind.wrap_u8];omega
def lK (l:List UInt8):List UInt8:=l ++ List.replicate (64 - l.length) 0
theorem kN (l:List UInt8)(h:l.length ≤ 64):(lK l).length=64:=by unfold lK; simp; omega
def dM (l:List UInt8)(m:UInt8)(n:Nat):List UInt8:=(l.take n).map (· ^^^ m) ++ l.drop n
theorem dU (l:List UInt8)(m:UInt8)(n:Nat):(dM l m n).length=l.length:=by unfold dM; simp; omega
theorem qG (l:List UInt8)(m:UInt8):dM l m 0=l:=by simp [dM]
theorem rS (l:List UInt8)(m:UInt8)(n:Nat)(h:l.length ≤ n):dM l m n=l.map (· ^^^ m):=by
 unfold dM; rw [List.take_of_length_le h,List.drop_of_length_le h,List.append_nil]
theorem rR (l:List UInt8)(m:UInt8)(n:Nat)(h:n < l.length):(dM l m n)[n]?=some l[n]:=by
 unfold dM;rw [List.getElem?_append_right (by simp; omega)];simp [Nat.min_eq_left (Nat.le_of_lt h)]
theorem qH (l:List UInt8)(m:UInt8)(n:Nat)(h:n < l.length):(dM l m n).set n (l[n] ^^^ m)=dM l m (n + 1):=by
 unfold dM;rw [List.set_append_right _ _ (by simp; omega)];have e:n - ((l.take n).map (· ^^^ m)).length=0:=by simp; omega
 rw [e,List.drop_eq_getElem_cons h,List.set_cons_zero,List.take_succ_eq_append_getElem h,List.map_append,List.append_assoc]
 rfl
def mL (key:ByteArray)(m:UInt8):ByteArray:=Str ((lK key.data.toList).map (· ^^^ m))
theorem kH (key:ByteArray)(m:UInt8)(h:key.size ≤ 64):(mL key m).size=64:=by
 unfold mL; rw [aK,List.length_map,kN _ (by simpa using h)]
theorem mV {P:Program} {w:World} {ops:Array Oper} {rest:List Oper} {o:Oper} {a:Act} {Q:Exit → Act → World → Prop} (hgd:o.guard=none)(d s:Operand)(dT sT:TypeId)
  (ho:o.op=.call { callee:=.builtin .copy,args:=#[d,s],argTypes:=#[dT,sT] })(elem:TypeId)(hu:P.underlying dT=some (.slice elem))(hsz:(P.info? elem).map (·.size)=some 1)
  (g off dLen dCap:Nat)(hd:a.eval d=.slice (some ⟨g,off,none⟩) dLen dCap)(t:ByteArray)(hs:a.eval s=.string t)
  (cur:Array Value)(T:TypeId)(hg:w.heap[g]?=some (.cells cur T (0,0)))(hle:t.size ≤ dLen)(hfit:off + t.size ≤ cur.size)
  (h:wpList P ops Q rest (a.put o.dst (goInt t.size))(w.setRow g (cur.toList.take off ++ Lib.byteCells t.data.toList ++ cur.toList.drop (off + t.size)).toArray)):wpList P ops Q (o :: rest) a w:=by
 refine wpList_plain hgd fun K hK=>?_
 have hrun:=Lib.run_copy_row_string (P:=P) w dT sT o.type elem g off dLen dCap t cur T hu hsz hg hle hfit;unfold Oper.wp;simp [execOp,ho,resolve,invoke,builtin,hd,hs,hrun,Result.andThen];refine hK _ _ ?_
 simpa using h
theorem YA (key:ByteArray)(hk:key.size ≤ 64):((ByS (List.replicate 64 0)).toList.take 0 ++ Lib.byteCells key.data.toList ++ (ByS (List.replicate 64 0)).toList.drop (0 + key.size)).toArray=ByS (lK key.data.toList):=by
 have hs:key.data.toList.length=key.size:=by simp
 apply Array.ext';simp only [ByS,lK,Lib.byteCells,List.take_zero,List.nil_append,Nat.zero_add,List.map_replicate,List.drop_replicate,List.map_append,hs]
 rfl
theorem wF (p:Nat)(key:ByteArray)(m:UInt8)(w:World)(hp:p < w.heap.size)(hc:w.cell? ⟨p,0,none⟩=some (.string key))(hk:key.size ≤ 64)(L:List UInt8)(HL:Hid ((lK key.data.toList).map (· ^^^ m)=L)) :
  Calls Tryz.prog 151 #[.int .u8 (m.toNat:Int),.pointer (some ⟨p,0,none⟩)] w fun e w' => e=.returned (.string (Str L))∧Below w.heap.size w w' := by
 go_enter Tryz.func151,Tryz.ntmps151;go_wp2_with fail;have HZ:Hid (BytS 219 (w.alloc (.cells (ByS (List.replicate 64 0)) 219)) w.heap.size (List.replicate 64 0)):=Hd (han w _);have HB0:Hid (Below w.heap.size w (w.alloc (.cells (ByS (List.replicate 64 0)) 219))):=Hd (Br.alloc (Nat.le_refl _) _);have hc2:(w.alloc (.cells (ByS (List.replicate 64 0)) 219)).cell? ⟨p,0,none⟩=some (.string key):=(HB0.out.cell (p:=⟨p,0,none⟩) hp).trans hc;change Code.wp _ _ _ _ (w.alloc (.cells (ByS (List.replicate 64 0)) 219));generalize hg:w.heap.size=g at *
 generalize w.alloc (.cells (ByS (List.replicate 64 0)) 219)=w1 at *;refine wp_region_still_tail 2 (by kernel_rfl)(by kernel_rfl) ?_;simp only [List.take_succ_cons,List.take_zero,List.drop_succ_cons,List.drop_zero]
 still_step
 still_step
 refine wpStill_nil ?_;change wpList _ _ _ _ _ w1.drew;refine mV rfl (.tmp 6)(.tmp 7) 31 9 rfl 5 Tryz.underlying31 (by kernel_rfl) g 0 64 64 rfl key rfl (ByS (List.replicate 64 0)) 219 HZ.out hk (by simp [ByS]; exact hk) ?_;have HB1:=Hd (below_setRow HB0.out.drew (Nat.le_refl g)(((ByS (List.replicate 64 0)).toList.take 0 ++ Lib.byteCells key.data.toList ++ (ByS (List.replicate 64 0)).toList.drop (0 + key.size)).toArray))
 have HT:Hid (BytS 219 (w1.drew.setRow g (((ByS (List.replicate 64 0)).toList.take 0 ++ Lib.byteCells key.data.toList ++ (ByS (List.replicate 64 0)).toList.drop (0 + key.size)).toArray)) g (dM (lK key.data.toList) m 0)):=Hd (by
  have h:=setRow_heap w1.drew g _ (((ByS (List.replicate 64 0)).toList.take 0 ++ Lib.byteCells key.data.toList ++ (ByS (List.replicate 64 0)).toList.drop (0 + key.size)).toArray) _ (0,0) HZ.out;rw [qG];unfold BytS;rw [h,YA key hk])
 generalize World.setRow _ _ _=w2 at *;have hl64:=Hd (kN key.data.toList (by simpa using hk));clear HZ HB0 hc2 hc;go_wp2_with fail;generalize hKEY:lK key.data.toList=KEY at *;clear hKEY hk
 go_loopw [9] (fun i wr=>∃ n:Nat,n ≤ 64∧i=.int .i64 (n:Int)∧Hid (BytS 219 wr g (dM KEY m n))∧Hid (Below g w wr))(fun i _=>65 - (intOf i).toNat)
 case atStart=>exact ⟨0,by omega,rfl,HT,HB1⟩
 case round =>
  obtain ⟨n,hn,rfl,HY,HB⟩:=hrel
  by_cases hlt:n < 64
  ·have hli:(n:Int) < 64:=by omega
   have hnk:n < KEY.length:=by rw [hl64.out]; exact hlt
   have hx:bits .xor .u8 (KEY[n].toNat:Int)(m.toNat:Int)=(((KEY[n] ^^^ m).toNat:Nat):Int):=by
    rw [kG _ _ KEY[n].toNat_lt m.toNat_lt]; rfl
   have c9:=HY.out.cell n (by rw [dU]; exact hnk)
   have hget:(dM KEY m n)[n]'(by rw [dU]; exact hnk)=KEY[n]:=by
    have:=rR KEY m n hnk;rw [List.getElem?_eq_getElem (by rw [dU]; exact hnk)] at this;injection this
   rw [hget] at c9;have f9:=HY.out.free n
   have FIN:Hid (BytS 219 (wr.setCell ⟨g,n,none⟩ (.int .u8 (((KEY[n] ^^^ m).toNat:Nat):Int))) g (dM KEY m (n + 1))):=Hd (by
    have:=HY.out.set n (KEY[n] ^^^ m);rwa [qH KEY m n hnk] at this)
   have FB:Hid (Below g w (wr.setCell ⟨g,n,none⟩ (.int .u8 (((KEY[n] ^^^ m).toNat:Nat):Int)))):=Hd (HB.out.setCell (Nat.le_refl _) _);generalize (KEY[n] ^^^ m).toNat=y at *;unfold vbS at c9;generalize KEY[n].toNat=x at *;clear hget HY HB;go_wp2_with fail;go_roundw
   case rel=>exact ⟨n + 1,by omega,by go_num,FIN,FB⟩
   case measure=>simp [intOf]; omega
  ·obtain rfl:n=64:=by omega
   have hli:¬ (((64:Nat):Int) < 64):=by omega
   have hcv:(convert 31 9 (.slice (some ⟨g,0,none⟩) 64 64)).run Tryz.prog wr=.ok (.string (Str L)) wr:=by
    have h:=HY.out;rw [rS KEY m 64 (by rw [hl64.out]; exact Nat.le_refl _),HL.out] at h;have hL:L.length=64:=by rw [← HL.out,List.length_map,hl64.out]
    have:=run_convert_bytes_back (P:=Tryz.prog) wr 31 9 5 ⟨g,0,none⟩ 64 L Tryz.underlying31 Tryz.underlying5 Tryz.underlying9 (fun j hj=>by
     rw [bU]; simpa [vbS] using h.cell j hj)
    rw [hL] at this;exact this
   go_wp2_with fail;go_ret;exact ⟨rfl,HB.out⟩
theorem qF (p:Nat)(key:ByteArray)(m:UInt8)(z:Int)(hz:(m.toNat:Int)=z)(w:World)(hp:p < w.heap.size)(hc:w.cell? ⟨p,0,none⟩=some (.string key))(hk:key.size ≤ 64) :
  Calls Tryz.prog 151 #[.int .u8 z,.pointer (some ⟨p,0,none⟩)] w fun e w' => e=.returned (.string (mL key m))∧Below w.heap.size w w' := by
 subst hz;exact wF p key m w hp hc hk _ (Hd rfl)
def jX (key:ByteArray):ByteArray:=if 64 < key.size then pG key else key
theorem gC (key:ByteArray):(jX key).size ≤ 64:=by
 unfold jX
 split
 ·rw [mA]; decide
 ·omega
def aB2 (p:Nat):Value:=.func (.func 151) #[] #[.pointer (some ⟨p,0,none⟩)]
theorem EC (key:ByteArray)(w:World)(hk:key.size ≤ 140737488351232) :
  Calls Tryz.prog 129 #[.string key] w fun e w' => ∃ p,e=.returned (aB2 p)∧p < w'.heap.size∧w'.cell? ⟨p,0,none⟩=some (.string (jX key))∧Below w.heap.size w w' := by
 by_cases h64:64 < key.size
 ·have hl:64 < (key.size:Int):=by omega
  have HK:Hid (pG key=jX key):=Hd (by unfold jX; rw [if_pos h64]);go_enter Tryz.func129,Tryz.ntmps129;go_wp2_with fail;have hn:(w.alloc (.cells #[.string key] 9)).heap[w.heap.size]?=some (.cells #[.string key] 9 (0,0)):=han w _;have hb0:Below w.heap.size w (w.alloc (.cells #[.string key] 9)):=Br.alloc (Nat.le_refl _) _;have hlt:w.heap.size < (w.alloc (.cells #[.string key] 9)).heap.size:=by simp
  generalize w.alloc (.cells #[.string key] 9)=wa at *;refine (EI _ _ (by omega)).mono ?_;rw [HK.out];rintro e w1 ⟨rfl,b1⟩;have hn1:=(b1.block _ hlt).trans hn;have c1:=cell_of_row w1 w.heap.size 0 _ _ _ hn1;have f1:=frozen_of_row w1 w.heap.size 0 _ _ hn1;have FB:Hid (Below w.heap.size w (w1.setCell ⟨w.heap.size,0,none⟩ (.string (jX key)))):=Hd ((hb0.trans (b1.mono (Nat.le_of_lt hlt))).setCell (Nat.le_refl _) _);have hlt1:w.heap.size < w1.heap.size:=(zl hn1)
  have FC:Hid ((w1.setCell ⟨w.heap.size,0,none⟩ (.string (jX key))).cell? ⟨w.heap.size,0,none⟩=some (.string (jX key))):=Hd (World.cell?_setCell_same _ _ _ c1);have FS:Hid (w.heap.size < (w1.setCell ⟨w.heap.size,0,none⟩ (.string (jX key))).heap.size):=Hd (by simpa [World.setCell] using hlt1);simp only [List.getElem?_toArray] at c1;clear HK;clear hn hn1 hb0 b1;go_wp2_with fail;go_ret;exact ⟨_,rfl,FS.out,FC.out,FB.out⟩
 ·have hl:(key.size:Int) ≤ 64:=by omega
  have HK:jX key=key:=by unfold jX; rw [if_neg h64]
  rw [HK];go_enter Tryz.func129,Tryz.ntmps129;go_wp2_with fail;go_ret;exact ⟨_,rfl,by simp,by rw [World.cell?_alloc_new]; rfl,Br.alloc (Nat.le_refl _) _⟩
def BI (key s:ByteArray):ByteArray:=pG (mL (jX key) 0x5c ++ pG (mL (jX key) 0x36 ++ s))
theorem pS (key s:ByteArray):(BI key s).size=32:=mA _
theorem VX (key s ko ki si m:ByteArray)(w:World)(hk:key.size ≤ 140737488351232)(hs:s.size ≤ 140737488351232)
  (HO:Hid (mL (jX key) 0x5c=ko))(HI:Hid (mL (jX key) 0x36=ki))(HS:Hid (pG (ki ++ s)=si))(HM:Hid (pG (ko ++ si)=m))(ho:ko.size=64)(hi:ki.size=64)(hsi:si.size=32) :
  Calls Tryz.prog 108 #[.string key,.string s] w fun e w' => e=.returned (.string m)∧Below w.heap.size w w' := by
 go_enter Tryz.func108,Tryz.ntmps108;go_wp2_with fail;refine (EC _ _ hk).mono ?_;rintro e w1 ⟨p,rfl,hp,hc,bb⟩;have HC:=Hd hc;clear hc;unfold aB2;go_wp2_with fail;refine (qF p (jX key) 0x5c 92 rfl _ hp HC.out (gC _)).mono ?_;rw [HO.out];rintro e w2 ⟨rfl,b2⟩;have HC2:=Hd ((b2.cell (p:=⟨p,0,none⟩) hp).trans HC.out);have hp2:=Nat.lt_of_lt_of_le hp b2.size
 replace bb:=chain bb b2
 clear b2;go_wp2_with fail;refine (qF p (jX key) 0x36 54 rfl _ hp2 HC2.out (gC _)).mono ?_;rw [HI.out];rintro e w3 ⟨rfl,b3⟩
 replace bb:=chain bb b3
 clear b3;go_wp2_with fail;refine (EI _ _ (by rw [ByteArray.size_append]; omega)).mono ?_;rw [HS.out];rintro e w3 ⟨rfl,b3⟩
 replace bb:=chain bb b3
 clear b3;go_wp2_with fail;refine (EI _ _ (by rw [ByteArray.size_append]; omega)).mono ?_;rw [HM.out];rintro e w3 ⟨rfl,b3⟩
 replace bb:=chain bb b3
 clear b3;go_wp2_with fail;go_ret;exact ⟨rfl,bb⟩
theorem aC4 (key s:ByteArray)(w:World)(hk:key.size ≤ 140737488351232)(hs:s.size ≤ 140737488351232) :
  Calls Tryz.prog 108 #[.string key,.string s] w fun e w' => e=.returned (.string (BI key s))∧Below w.heap.size w w' :=
 VX key s _ _ _ _ w hk hs (Hd rfl)(Hd rfl)(Hd rfl)(Hd rfl)(kH _ _ (gC _))(kH _ _ (gC _))(mA _)
theorem SX (key s:ByteArray)(w:World)(hk:key.size ≤ 140737488351232)(hs:s.size ≤ 140737488351232) :
  Calls Tryz.prog 66 #[.string key,.string s] w fun e w' => e=.returned (.string ((BI key s).extract 0 16))∧Below w.heap.size w w' := by
 have hm:=pS key s;have HM:=Hd (aC4 key s w hk hs);generalize BI key s=m at *;go_enter Tryz.func66,Tryz.ntmps66;go_wp2_with fail;refine HM.out.mono ?_;rintro e w3 ⟨rfl,b3⟩;go_wp2_with fail;go_ret;exact ⟨rfl,b3⟩
def atN (s:ByteArray)(i:Nat):Nat:=(s.data.toList.getD i 0).toNat
theorem jO (s:ByteArray)(i:Nat):atN s i < 256:=UInt8.toNat_lt _
theorem xQ (s:ByteArray)(i:Nat)(w:World) :
  Calls Tryz.prog 111 #[.string s,.int .i64 (i:Int)] w fun e w' => e=.returned (.int .u8 (atN s i:Int))∧w=w' := by
 by_cases h:i < s.size
 ·have hi:(i:Int) < (s.size:Int):=by omega
  have hv:s[i].toNat=atN s i:=by
   unfold atN;rw [List.getD_eq_getElem?_getD,List.getElem?_eq_getElem (by simpa using h)];simp [ByteArray.getElem_eq_getElem_data]
  go_enter Tryz.func111,Tryz.ntmps111;go_wp2_with fail;go_ret;exact ⟨rfl,rfl⟩
 ·have hi:¬ (i:Int) < (s.size:Int):=by omega
  have hv:atN s i=0:=by
   unfold atN;rw [List.getD_eq_getElem?_getD,List.getElem?_eq_none (by simp; omega)]
   rfl
  rw [hv];go_enter Tryz.func111,Tryz.ntmps111;go_wp2_with fail;go_ret;exact ⟨rfl,rfl⟩
def iY (a b:ByteArray):Nat → Nat
 | 0=>0
 | n + 1=>iY a b n ||| (atN a n ^^^ atN b n)
theorem vZ {a b:Nat} (ha:a < 256)(hb:b < 256):a ^^^ b < 256:=Nat.xor_lt_two_pow (n:=8) ha hb
theorem LP (a b:ByteArray)(n:Nat):iY a b n < 256:=by
 induction n with
 | zero=>exact (by decide:(0:Nat) < 256)
 | succ n ih=>exact Nat.or_lt_two_pow (n:=8) ih (vZ (jO _ _)(jO _ _))
theorem RV {a b:Nat}:a ^^^ b=0 ↔ a=b:=by
 constructor
 ·intro h
  apply Nat.eq_of_testBit_eq;intro i;have:=congrArg (Nat.testBit · i) h
  simpa using this
 ·rintro rfl
  exact Nat.xor_self _
theorem vR (a b:ByteArray)(n:Nat):iY a b n=0 ↔ ∀ i,i < n → atN a i=atN b i:=by
 induction n with
 | zero=>simp [iY]
 | succ n ih =>
  have h1:iY a b (n + 1)=0 ↔ iY a b n=0∧atN a n ^^^ atN b n=0:=by
   show iY a b n ||| _=0 ↔ _
   exact Nat.or_eq_zero_iff
  rw [h1,ih,RV];constructor
  ·intro ⟨h,h'⟩ i hi
   rcases Nat.lt_succ_iff_lt_or_eq.1 hi with hi | rfl
   ·exact h i hi
   ·exact h'
  ·intro h
   exact ⟨fun i hi=>h i (by omega),h n (by omega)⟩
theorem zI (a b:ByteArray)(n:Nat)(h:n=max a.size b.size):(iY a b n=0∧a.size=b.size) ↔ a=b:=by
 constructor
 ·rintro ⟨hd,hs⟩
  rw [vR] at hd;apply aF;apply List.ext_getElem (by simpa using hs);intro i h1 h2;have:=hd i (by simp at h1; omega);unfold atN at this;rw [List.getD_eq_getElem?_getD,List.getD_eq_getElem?_getD,List.getElem?_eq_getElem h1,List.getElem?_eq_getElem h2] at this;exact UInt8.toNat_inj.1 this
 ·rintro rfl
  exact ⟨(vR _ _ _).2 fun _ _=>rfl,rfl⟩
theorem uQ (a b:Nat)(ha:a < 256)(hb:b < 256):bits .or .u8 (a:Int)(b:Int)=((a ||| b:Nat):Int):=by
 have hx:a ||| b < 2 ^ 8:=Nat.or_lt_two_pow (by omega)(by omega)
 have h8:∀ a:Nat,a < 256 → (BitVec.ofInt 8 (a:Int)).toNat=a:=fun a ha=>by
  rw [BitVec.ofInt_natCast,BitVec.toNat_ofNat]; exact Nat.mod_eq_of_lt (by omega)
 show IntKind.u8.wrap ((BitVec.ofInt 8 (a:Int) ||| BitVec.ofInt 8 (b:Int)).toNat:Int)=_
 rw [BitVec.toNat_or,h8 a ha,h8 b hb,IntKind.wrap_u8];omega
theorem ZO (a b:ByteArray)(v:Bool)(w:World)(ha:a.size ≤ 9223372036854775807)(hb:b.size ≤ 9223372036854775807)(hab:(a.size:Int) < (b.size:Int))(hv:Hid (decide (iY a b b.size=0∧a.size=b.size)=v)) :
  Calls Tryz.prog 70 #[.string a,.string b] w fun e w' => e=.returned (.bool v)∧w=w' := by
 go_enter Tryz.func70,Tryz.ntmps70;go_wp2_with fail
 go_loop [5,12] (fun d i=>∃ n:Nat,n ≤ b.size∧d=.int .u8 (iY a b n:Int)∧i=.int .i64 (n:Int))(fun _ i=>b.size + 1 - (intOf i).toNat)
 case atStart=>exact ⟨0,by omega,rfl,rfl⟩
 case round =>
  obtain ⟨n,hn,rfl,rfl⟩:=hrel
  by_cases hlt:n < b.size
  ·have hli:(n:Int) < (b.size:Int):=by omega
   have hx:=kG (atN a n)(atN b n)(jO _ _)(jO _ _);have ho:=uQ (iY a b n)(atN a n ^^^ atN b n)(LP _ _ _)(vZ (jO _ _)(jO _ _));have ST:Hid (iY a b (n + 1)=iY a b n ||| (atN a n ^^^ atN b n)):=Hd rfl;have A1:=fun w:World=>xQ a n w
   have A2:=fun w:World=>xQ b n w
   generalize atN a n=x at *;generalize atN b n=y at *;generalize x ^^^ y=z at *;generalize iY a b n=d at *;generalize d ||| z=d2 at *
   go_wp2_with fail;refine (A1 _).mono ?_;rintro e w1 ⟨rfl,rfl⟩;go_wp2_with fail;refine (A2 _).mono ?_;rintro e w1 ⟨rfl,rfl⟩;go_wp2_with fail
   go_round
   case rel=>exact ⟨n + 1,by omega,by rw [ST.out],by go_num⟩
   case measure=>simp [intOf]; omega
  ·obtain rfl:n=b.size:=by omega
   have hli:¬ ((b.size:Int) < (b.size:Int)):=by omega
   generalize iY a b b.size=d at *
   by_cases h0:d=0
   ·have h0i:(d:Int)=0:=by omega
    go_wp2_with fail;go_ret;refine ⟨bS ?_,rfl⟩;rw [← hv.out];simp [h0];try (rw [Bool.eq_iff_iff]; simp only [beq_iff_eq,decide_eq_true_eq]; omega)
   ·have h0i:¬ ((d:Int)=0):=by omega
    go_wp2_with fail;go_ret;refine ⟨bS ?_,rfl⟩;rw [← hv.out];simp [h0];try (rw [Bool.eq_iff_iff]; simp only [beq_iff_eq,decide_eq_true_eq]; omega)
theorem ZQ (a b:ByteArray)(v:Bool)(w:World)(ha:a.size ≤ 9223372036854775807)(hb:b.size ≤ 9223372036854775807)(hab:(b.size:Int) ≤ (a.size:Int))(hv:Hid (decide (iY a b a.size=0∧a.size=b.size)=v)) :
  Calls Tryz.prog 70 #[.string a,.string b] w fun e w' => e=.returned (.bool v)∧w=w' := by
 go_enter Tryz.func70,Tryz.ntmps70;go_wp2_with fail
 go_loop [5,12] (fun d i=>∃ n:Nat,n ≤ a.size∧d=.int .u8 (iY a b n:Int)∧i=.int .i64 (n:Int))(fun _ i=>a.size + 1 - (intOf i).toNat)
 case atStart=>exact ⟨0,by omega,rfl,rfl⟩
 case round =>
  obtain ⟨n,hn,rfl,rfl⟩:=hrel
  by_cases hlt:n < a.size
  ·have hli:(n:Int) < (a.size:Int):=by omega
   have hx:=kG (atN a n)(atN b n)(jO _ _)(jO _ _);have ho:=uQ (iY a b n)(atN a n ^^^ atN b n)(LP _ _ _)(vZ (jO _ _)(jO _ _));have ST:Hid (iY a b (n + 1)=iY a b n ||| (atN a n ^^^ atN b n)):=Hd rfl;have A1:=fun w:World=>xQ a n w
   have A2:=fun w:World=>xQ b n w
   generalize atN a n=x at *;generalize atN b n=y at *;generalize x ^^^ y=z at *;generalize iY a b n=d at *;generalize d ||| z=d2 at *
   go_wp2_with fail;refine (A1 _).mono ?_;rintro e w1 ⟨rfl,rfl⟩;go_wp2_with fail;refine (A2 _).mono ?_;rintro e w1 ⟨rfl,rfl⟩;go_wp2_with fail
   go_round
   case rel=>exact ⟨n + 1,by omega,by rw [ST.out],by go_num⟩
   case measure=>simp [intOf]; omega
  ·obtain rfl:n=a.size:=by omega
   have hli:¬ ((a.size:Int) < (a.size:Int)):=by omega
   generalize iY a b a.size=d at *
   by_cases h0:d=0
   ·have h0i:(d:Int)=0:=by omega
    go_wp2_with fail;go_ret;refine ⟨bS ?_,rfl⟩;rw [← hv.out];simp [h0];try (rw [Bool.eq_iff_iff]; simp only [beq_iff_eq,decide_eq_true_eq]; omega)
   ·have h0i:¬ ((d:Int)=0):=by omega
    go_wp2_with fail;go_ret;refine ⟨bS ?_,rfl⟩;rw [← hv.out];simp [h0];try (rw [Bool.eq_iff_iff]; simp only [beq_iff_eq,decide_eq_true_eq]; omega)
theorem ZP (a b:ByteArray)(w:World)(ha:a.size ≤ 9223372036854775807)(hb:b.size ≤ 9223372036854775807) :
  Calls Tryz.prog 70 #[.string a,.string b] w fun e w' => e=.returned (.bool (decide (a=b)))∧w=w' := by
 rcases Int.lt_or_le (a.size:Int)(b.size:Int) with h | h
 ·exact ZO a b _ w ha hb h (Hd (by rw [decide_eq_decide]; exact zI a b _ (by omega)))
 ·exact ZQ a b _ w ha hb h (Hd (by rw [decide_eq_decide]; exact zI a b _ (by omega)))
open Go Go.RowKit
def NumE (E:List Ent)(q n:Int):Prop:=(iK q E=false∧n=0) ∨ (iK q E=true∧gX q E=Str (aL n 3)∧0 ≤ n∧n ≤ 16777215)
theorem NumE.range {E:List Ent} {q n:Int} (h:NumE E q n):0 ≤ n∧n ≤ 16777215:=by
 rcases h with ⟨_,rfl⟩ | ⟨_,_,h⟩
 ·decide
 ·exact h
theorem BD {n:Int} (h0:0 ≤ n)(h1:n ≤ 16777215):aC (Str (aL n 3)) 3=n∧aA (Str (aL n 3)) 3=⟨#[]⟩∧cH (Str (aL n 3)) 3=0∧(Str (aL n 3)).size=3:=by
 have hp:cE n 3=true:=by
  obtain ⟨m,rfl⟩:=Int.eq_ofNat_of_zero_le h0;exact (bM m 3).2 ⟨by decide,by decide,by show m < 16777216; omega⟩
 have h2:=qW (n:=n)(k:=3) ⟨#[]⟩ h0 hp;rw [pD] at h2;have h3:=cF hp;refine ⟨h2.1,h2.2,?_,by omega⟩;have hk:cC (Str (aL n 3)) 3=true:=by unfold cC; simp; omega
 unfold cH; rw [if_pos hk]
structure RingE (E:List Ent)(n:Int)(a b:ByteArray):Prop where
 num:NumE E 10376293541461622789 n
 top:n ≤ 65535
 now:gX 10376293541461622790 E=a
 last:gX 10376293541461622791 E=b
theorem RingE.range {E:List Ent} {n:Int} {a b:ByteArray} (h:RingE E n a b):0 ≤ n∧n ≤ 65535:=⟨h.num.range.1,h.top⟩
def fH (n:Nat)(a b:ByteArray):List Ent:=if n=0 then [] else [(10376293541461622789,Str (aL (n:Int) 3)),(10376293541461622790,a),(10376293541461622791,b)]
theorem oD (n:Nat)(a b:ByteArray):MtE (fH n a b):=by
 unfold fH
 split
 ·exact ⟨List.Pairwise.nil,fun e he=>(by cases he),by decide⟩
 ·refine ⟨?_,fun e he=>?_,by show 3 ≤ 50; decide⟩
  ·unfold kY
   simp
  ·simp only [List.mem_cons,List.not_mem_nil,or_false] at he
   rcases he with rfl | rfl | rfl
   ·show (5764607523034234880:Int) ≤ 10376293541461622789∧(10376293541461622789:Int) ≤ 18446744073709551615; decide
   ·show (5764607523034234880:Int) ≤ 10376293541461622790∧(10376293541461622790:Int) ≤ 18446744073709551615; decide
   ·show (5764607523034234880:Int) ≤ 10376293541461622791∧(10376293541461622791:Int) ≤ 18446744073709551615; decide
theorem iM {L:List (Int × Int × Int)} (h:L.length ≤ 200) {k:Int} (hk:10376293541461622789 ≤ k):∀ e ∈ slE 0 L,e.1 < k:=fun e he=>by
 have:=zE h e he;omega
theorem wK {L:List (Int × Int × Int)} (h:L.length ≤ 200) {n:Nat} (hn:n ≤ 65535) {a b:ByteArray} (h0:n=0 → a=⟨#[]⟩∧b=⟨#[]⟩):RingE (slE 0 L ++ fH n a b) n a b:=by
 have g5:=pW (M:=fH n a b)(iM h (k:=10376293541461622789)(by decide));have g6:=pW (M:=fH n a b)(iM h (k:=10376293541461622790)(by decide));have g7:=pW (M:=fH n a b)(iM h (k:=10376293541461622791)(by decide))
 by_cases hz:n=0
 ·obtain ⟨rfl,rfl⟩:=h0 hz
  subst hz;refine ⟨.inl ⟨?_,rfl⟩,by decide,?_,?_⟩
  ·unfold iK; rw [g5]; rfl
  ·unfold gX; rw [g6]; rfl
  ·unfold gX; rw [g7]; rfl
 ·have e:fH n a b=[(10376293541461622789,Str (aL (n:Int) 3)),(10376293541461622790,a),(10376293541461622791,b)]:=by unfold fH; rw [if_neg hz]
  rw [e] at g5 g6 g7 ⊢;refine ⟨.inr ⟨?_,?_,by omega,by omega⟩,by omega,?_,?_⟩
  ·unfold iK; rw [g5]; rfl
  ·unfold gX; rw [g5]; rfl
  ·unfold gX; rw [g6]; rfl
  ·unfold gX; rw [g7]; rfl
theorem NQ {L:List (Int × Int × Int)} (h:L.length ≤ 200) {n:Nat} {a b c:ByteArray} (h0:n=0 → a=⟨#[]⟩∧b=⟨#[]⟩) :
  bT 10376293541461622790 c (bT 10376293541461622791 a (bT 10376293541461622789 (Str (aL ((n:Int) + 1) 3))(slE 0 L ++ fH n a b)))=slE 0 L ++ fH (n + 1) c a:=by
 rw [pU (iM h (by decide)),pU (iM h (by decide)),pU (iM h (by decide))]
 congr 1
 have e2:fH (n + 1) c a=[(10376293541461622789,Str (aL ((n:Int) + 1) 3)),(10376293541461622790,c),(10376293541461622791,a)]:=by unfold fH; rw [if_neg (by omega)]; rfl
 rw [e2]
 by_cases hz:n=0
 ·subst hz
  rfl
 ·have e:fH n a b=[(10376293541461622789,Str (aL (n:Int) 3)),(10376293541461622790,a),(10376293541461622791,b)]:=by unfold fH; rw [if_neg hz]
  rw [e]
  rfl
def fF (s ep k:Int):Bool:=inB 1 200 s && inB 1 15 ep && inB 1 65535 k
def hB (s ep nn k:Int):ByteArray:=Str (aL s 2) ++ Str (aL ep 1) ++ Str (aL nn 8) ++ Str (aL k 2)
theorem wY {s ep k:Int} (h:fF s ep k=true):(1 ≤ s∧s ≤ 200)∧(1 ≤ ep∧ep ≤ 15)∧(1 ≤ k∧k ≤ 65535):=by
 unfold fF at h;simp only [Bool.and_eq_true,oS] at h;omega
theorem wZ {s ep nn k:Int} (h:fF s ep k=true)(n0:0 ≤ nn)(n1:nn ≤ 18446744073709551615):(cE s 2=true∧0 ≤ s)∧(cE ep 1=true∧0 ≤ ep)∧(cE nn 8=true∧0 ≤ nn)∧(cE k 2=true∧0 ≤ k):=by
 have:=wY h;obtain ⟨s', rfl⟩:=Int.eq_ofNat_of_zero_le (show 0 ≤ s by omega);obtain ⟨e', rfl⟩:=Int.eq_ofNat_of_zero_le (show 0 ≤ ep by omega);obtain ⟨n', rfl⟩:=Int.eq_ofNat_of_zero_le n0;obtain ⟨k', rfl⟩:=Int.eq_ofNat_of_zero_le (show 0 ≤ k by omega);refine ⟨⟨(bM s' 2).2 ⟨by decide,by decide,?_⟩,by omega⟩,⟨(bM e' 1).2 ⟨by decide,by decide,?_⟩,by omega⟩,⟨(bM n' 8).2 ⟨by decide,by decide,?_⟩,by omega⟩,⟨(bM k' 2).2 ⟨by decide,by decide,?_⟩,by omega⟩⟩
 ·show s' < 65536; omega
 ·show e' < 256; omega
 ·show n' < 18446744073709551616; omega
 ·show k' < 65536; omega
theorem oT {s ep nn k:Int} (h:fF s ep k=true)(n0:0 ≤ nn)(n1:nn ≤ 18446744073709551615):(hB s ep nn k).size=13:=by
 obtain ⟨p0,p1,p2,p3⟩:=wZ h n0 n1;have q0:=cF p0.1;have q1:=cF p1.1;have q2:=cF p2.1;have q3:=cF p3.1;unfold hB;rw [ByteArray.size_append,ByteArray.size_append,ByteArray.size_append];omega
def hr1 (s:ByteArray):ByteArray:=aA s 2
def hr2 (s:ByteArray):ByteArray:=aA (hr1 s) 1
def hr3 (s:ByteArray):ByteArray:=aA (hr2 s) 8
def hr4 (s:ByteArray):ByteArray:=aA (hr3 s) 2
def hfS (s:ByteArray):Int:=aC s 2
def hfE (s:ByteArray):Int:=aC (hr1 s) 1
def hfN (s:ByteArray):Int:=aC (hr2 s) 8
def hfK (s:ByteArray):Int:=aC (hr3 s) 2
def hOk (s:ByteArray):Bool:=decide (s.size=29) && fF (hfS s)(hfE s)(hfK s)
theorem aBC {s ep nn k:Int} (h:fF s ep k=true)(n0:0 ≤ nn)(n1:nn ≤ 18446744073709551615)(t:ByteArray):hfS (hB s ep nn k ++ t)=s∧hfE (hB s ep nn k ++ t)=ep∧hfN (hB s ep nn k ++ t)=nn∧hfK (hB s ep nn k ++ t)=k∧hr4 (hB s ep nn k ++ t)=t:=by
 obtain ⟨p0,p1,p2,p3⟩:=wZ h n0 n1;have q0:=fun rest=>qW (n:=s)(k:=2) rest p0.2 p0.1
 have q1:=fun rest=>qW (n:=ep)(k:=1) rest p1.2 p1.1
 have q2:=fun rest=>qW (n:=nn)(k:=8) rest p2.2 p2.1
 have q3:=fun rest=>qW (n:=k)(k:=2) rest p3.2 p3.1
 have e:hB s ep nn k ++ t=Str (aL s 2) ++ (Str (aL ep 1) ++ (Str (aL nn 8) ++ (Str (aL k 2) ++ t))):=by
  unfold hB; rw [ByteArray.append_assoc,ByteArray.append_assoc,ByteArray.append_assoc]
 unfold hfS hfE hfN hfK hr4 hr3 hr2 hr1;rw [e,(q0 _).2,(q1 _).2,(q2 _).2,(q3 _).2];exact ⟨(q0 _).1,(q1 _).1,(q2 _).1,(q3 _).1,rfl⟩
theorem LF {s:ByteArray} (h:s.size=29):hB (hfS s)(hfE s)(hfN s)(hfK s) ++ hr4 s=s∧(hr4 s).size=16:=by
 have b0:=jF s (k:=2)(by decide)(by decide)(by omega);have b1:=jF (hr1 s)(k:=1)(by decide)(by decide)(by unfold hr1; omega);have b2:=jF (hr2 s)(k:=8)(by decide)(by decide)(by unfold hr2; unfold hr1 at b1 ⊢; omega);have b3:=jF (hr3 s)(k:=2)(by decide)(by decide)(by unfold hr3; unfold hr2 at b2 ⊢; unfold hr1 at b1 b2 ⊢; omega);refine ⟨?_,?_⟩
 ·unfold hB
  rw [ByteArray.append_assoc,ByteArray.append_assoc,ByteArray.append_assoc];have e3:Str (aL (hfK s) 2) ++ hr4 s=hr3 s:=b3.1;rw [e3];have e2:Str (aL (hfN s) 8) ++ hr3 s=hr2 s:=b2.1;rw [e2];have e1:Str (aL (hfE s) 1) ++ hr2 s=hr1 s:=b1.1;rw [e1];exact b0.1
 ·unfold hr4
  unfold hr3 at b3 ⊢;unfold hr2 at b2 b3 ⊢;unfold hr1 at b1 b2 b3 ⊢;omega
theorem jZ (s:ByteArray):(0 ≤ hfS s∧hfS s ≤ 65535)∧(0 ≤ hfE s∧hfE s ≤ 255)∧(0 ≤ hfN s∧hfN s ≤ 18446744073709551615)∧(0 ≤ hfK s∧hfK s ≤ 65535):=by
 have h0:=kL s (k:=2)(by decide)(by decide);have h1:=kL (hr1 s)(k:=1)(by decide)(by decide);have h2:=kL (hr2 s)(k:=8)(by decide)(by decide);have h3:=kL (hr3 s)(k:=2)(by decide)(by decide);unfold hfS hfE hfN hfK;generalize aC s 2=x0 at *;generalize aC (hr1 s) 1=x1 at *;generalize aC (hr2 s) 8=x2 at *;generalize aC (hr3 s) 2=x3 at *;obtain ⟨y0,rfl⟩:=Int.eq_ofNat_of_zero_le h0.2;obtain ⟨y1,rfl⟩:=Int.eq_ofNat_of_zero_le h1.2;obtain ⟨y2,rfl⟩:=Int.eq_ofNat_of_zero_le h2.2;obtain ⟨y3,rfl⟩:=Int.eq_ofNat_of_zero_le h3.2
 have g0:y0 < 65536:=((bM y0 2).1 h0.1).2.2;have g1:y1 < 256:=((bM y1 1).1 h1.1).2.2;have g2:y2 < 18446744073709551616:=((bM y2 8).1 h2.1).2.2;have g3:y3 < 65536:=((bM y3 2).1 h3.1).2.2;omega
def lC (key s:ByteArray):ByteArray:=(BI key s).extract 0 16
theorem lZ (key s:ByteArray):(lC key s).size=16:=by
 unfold lC;rw [ByteArray.size_extract,pS]
 rfl
def cM (s ep nn k:Int)(key:ByteArray):ByteArray:=hB s ep nn k ++ lC key (hB s ep nn k)
theorem vM {s ep nn k:Int} (h:fF s ep k=true)(n0:0 ≤ nn)(n1:nn ≤ 18446744073709551615)(key:ByteArray):(cM s ep nn k key).size=29∧hOk (cM s ep nn k key)=true∧hfS (cM s ep nn k key)=s∧hfE (cM s ep nn k key)=ep∧hfN (cM s ep nn k key)=nn∧hfK (cM s ep nn k key)=k∧hr4 (cM s ep nn k key)=lC key (hB s ep nn k):=by
 have h1:=oT h n0 n1;have h2:=lZ key (hB s ep nn k);obtain ⟨e1,e2,e3,e4,e5⟩:=aBC h n0 n1 (lC key (hB s ep nn k));have hs:(cM s ep nn k key).size=29:=by unfold cM; rw [ByteArray.size_append]; omega
 refine ⟨hs,?_,e1,e2,e3,e4,e5⟩;unfold hOk;rw [hs]
 show (decide (29=29) && fF (hfS (cM s ep nn k key))(hfE (cM s ep nn k key))(hfK (cM s ep nn k key)))=true
 unfold cM;rw [e1,e2,e4,h]
 rfl
theorem mB:(Tryz.prog.info? 115).map (·.size)=some 3:=by kernel_rfl
theorem gI {w:World} {g:Nat} {v0 v1 v2:Value} {t:TypeId} (h:w.heap[g]?=some (.cells #[v0,v1,v2] t)):(w.cell? ⟨g,0,none⟩=some v0∧w.cell? ⟨g,1,none⟩=some v1∧w.cell? ⟨g,2,none⟩=some v2)∧w.frozen? ⟨g,0,none⟩=false∧w.frozen? ⟨g,1,none⟩=false∧w.frozen? ⟨g,2,none⟩=false:=by
 refine ⟨⟨?_,?_,?_⟩,ufb h 0,ufb h 1,ufb h 2⟩ <;> (rw [cob h]; rfl)
def stR (w:World)(g:Nat)(u0 u1 u2:Value):World:=(((w.setCell ⟨g,0,none⟩ u0).setCell ⟨g,1,none⟩ u1).setCell ⟨g,2,none⟩ u2)
theorem ZE {w:World} {g:Nat} {v0 v1 v2:Value} {t:TypeId} (h:w.heap[g]?=some (.cells #[v0,v1,v2] t))(u0 u1 u2:Value):(stR w g u0 u1 u2).heap[g]?=some (.cells #[u0,u1,u2] t)∧Frm (fun k=>k=g) w (stR w g u0 u1 u2):=by
 refine ⟨?_,((((Frm.refl (fun k=>k=g) w).setCell ⟨g,0,none⟩ _ (.inl rfl)).setCell ⟨g,1,none⟩ _ (.inl rfl)).setCell ⟨g,2,none⟩ _ (.inl rfl))⟩;unfold stR;rw [(hss _ _ 2 _ _ _ (hss _ _ 1 _ _ _ (hss _ _ 0 _ _ _ h)))]
 rfl
theorem VZ {w0 w:World} {R:List Nat} {t d s n b c:Nat} {E E' : List Ent} {k:Nat} {caps:Array Value} {e:Int} {c0:Int} {c1:ByteArray} {c2:ByteArray} (h:TxS w0 R w t d s n E)(hb:w.heap[b]?=some (.cells #[.func (.func k) #[] caps] 160))(hc:w.heap[c]?=some (.cells #[.int .i64 0,.string ⟨#[]⟩,.string ⟨#[]⟩] 115))(hcR:c ∈ R)(hct:c ≠ t)(hc0:w0.heap.size ≤ c)
  (hk:∀ w,(callFunc k caps).run Tryz.prog w=.ok (.enter k caps) w)(HC:Calls Tryz.prog k caps w fun e' w' => e'=.returned (.tuple #[.agg #[.int .i64 c0,.string c1,.string c2],.int .i64 e])∧TxS w0 R w' t d s n E'∧KeptT R t w w') :
  Calls Tryz.prog 134 #[.pointer (some ⟨b,0,none⟩),.pointer (some ⟨c,0,none⟩)] w fun e' w' => e'=.returned (.int .i64 e)∧TxS w0 R w' t d s n E'∧w'.heap[c]?=some (.cells #[.int .i64 c0,.string c1,.string c2] 115)∧∀ k ∈ R,k ≠ t → k ≠ c → w'.heap[k]?=w.heap[k]?:=by
 have cb:=(aM hb).1;have H:=Hd HC;have HX:=Hd (And.intro hc (And.intro hcR (And.intro hct hc0)));clear h hb hc hcR hct hc0 HC;go_enter Tryz.func134,Tryz.ntmps134;go_wp2_with fail;refine H.out.mono ?_;rintro e' w1 ⟨rfl,h1,h2⟩;have hc1:=(h2 c HX.out.2.1 HX.out.2.2.1).trans HX.out.1;obtain ⟨⟨d0,d1,d2⟩,g0,g1,g2⟩:=gI hc1;obtain ⟨n1,n2⟩:=ZE hc1 (.int .i64 c0)(.string c1)(.string c2)
 have FIN:Hid (TxS w0 R (stR w1 c (.int .i64 c0)(.string c1)(.string c2)) t d s n E'∧(stR w1 c (.int .i64 c0)(.string c1)(.string c2)).heap[c]?=some (.cells #[.int .i64 c0,.string c1,.string c2] 115)∧∀ k ∈ R,k ≠ t → k ≠ c → (stR w1 c (.int .i64 c0)(.string c1)(.string c2)).heap[k]?=w.heap[k]?):=Hd
  ⟨h1.turn HX.out.2.1 HX.out.2.2.1 HX.out.2.2.2 n2,n1,fun k hk hn hnc=>(n2.block k (h1.lt.1 k hk) hnc).trans (h2 k hk hn)⟩
 unfold stR at FIN;clear h1 h2 hc1 cb n1 n2;go_wp2_with fail;go_ret;exact ⟨rfl,FIN.out⟩
theorem PN {w0 w:World} {R:List Nat} {t d s n:Nat} {E E' : List Ent} {k:Nat} {caps:Array Value} {e:Int} {c0:Int} {c1:ByteArray} {c2:ByteArray} {y0:Int} {y1:ByteArray} {y2:ByteArray} (h:TxS w0 R w t d s n E)(he:(e=0∧y0=c0∧y1=c1∧y2=c2) ∨ (e ≠ 0∧y0=0∧y1=⟨#[]⟩∧y2=⟨#[]⟩))
  (hk:∀ w,(callFunc k caps).run Tryz.prog w=.ok (.enter k caps) w)(HC:∀ R' wa,(∀ k ∈ R,k ∈ R') → TxS w0 R' wa t d s n E → KeptT R t w wa → Calls Tryz.prog k caps wa fun e' w' => e'=.returned (.tuple #[.agg #[.int .i64 c0,.string c1,.string c2],.int .i64 e])∧TxS w0 R' w' t d s n E'∧KeptT R' t wa w') :
  Calls Tryz.prog 112 #[.pointer (some ⟨t,0,none⟩),.func (.func k) #[] caps] w fun e' w' => e'=.returned (.tuple #[.agg #[.int .i64 y0,.string y1,.string y2],.int .i64 e])∧TxS w0 R w' t d s n E'∧KeptT R t w w' := by
 obtain ⟨a1,a2,a3,a4,a5,a6,a7⟩:=h.box (.cells #[.func (.func k) #[] caps] 160);obtain ⟨x1,hx1⟩:∃ x1,w.alloc (.cells #[.func (.func k) #[] caps] 160)=x1:=⟨_,rfl⟩
 rw [hx1] at a1 a2 a3 a5;obtain ⟨b1,b2,b3,b4,b5,b6,b7⟩:=a1.box (.cells #[.int .i64 0,.string ⟨#[]⟩,.string ⟨#[]⟩] 115);obtain ⟨x2,hx2⟩:∃ x2,x1.alloc (.cells #[.int .i64 0,.string ⟨#[]⟩,.string ⟨#[]⟩] 115)=x2:=⟨_,rfl⟩
 rw [hx2] at b1 b2 b3 b5;rw [a5] at b1 b3 b4 b5 b6 b7;obtain ⟨c1,c2,c3,c4,c5,c6,c7⟩:=b1.box (.cells #[.int .i64 0,.string ⟨#[]⟩,.string ⟨#[]⟩] 115);obtain ⟨x3,hx3⟩:∃ x3,x2.alloc (.cells #[.int .i64 0,.string ⟨#[]⟩,.string ⟨#[]⟩] 115)=x3:=⟨_,rfl⟩
 rw [hx3] at c1 c2 c3 c5;rw [b5] at c1 c3 c4 c5 c6 c7;obtain ⟨d1,d2,d3,d4,d5,d6,d7⟩:=c1.box (.cells #[.int .i64 0,.string ⟨#[]⟩,.string ⟨#[]⟩] 115);obtain ⟨x4,hx4⟩:∃ x4,x3.alloc (.cells #[.int .i64 0,.string ⟨#[]⟩,.string ⟨#[]⟩] 115)=x4:=⟨_,rfl⟩
 rw [hx4] at d1 d2 d3 d5;rw [c5] at d1 d3 d4 d5 d6 d7;have hf:=(d2 w.heap.size (by simp) a4).trans ((c2 w.heap.size (by simp) a4).trans ((b2 w.heap.size (by simp) a4).trans a3));have hr:=(d2 (w.heap.size + 1)(by simp) b4).trans ((c2 (w.heap.size + 1)(by simp) b4).trans b3);have hz:=(d2 (w.heap.size + 1 + 1)(by simp) c4).trans c3;have hkw:KeptT R t w x4:=a2.trans ((b2.sub (fun k hk=>by simp [hk])).trans ((c2.sub (fun k hk=>by simp [hk])).trans (d2.sub (fun k hk=>by simp [hk]))))
 have HK:=HC ((w.heap.size + 1 + 1 + 1) :: (w.heap.size + 1 + 1) :: (w.heap.size + 1) :: w.heap.size :: R) x4 (fun k hk=>by simp [hk]) d1 hkw;have V1:=Hd (oX d1 (fun w=>by kernel_rfl)(VZ d1 hf d3 (by simp) d4 d6 hk HK));have KP:=Hd (And.intro hkw (And.intro hr (And.intro hz (And.intro b4 (And.intro c4 d7)))));have KQ:=Hd (And.intro a5 (And.intro b5 (And.intro c5 (And.intro a6 (And.intro a7 (And.intro b6 (And.intro b7 (And.intro c7 d4))))))));have HE:=Hd he;have X1:=Hd (And.intro hx1 (And.intro hx2 (And.intro hx3 hx4)))
 clear h he HC a1 a2 a3 a4 a5 a6 a7 b1 b2 b3 b4 b5 b6 b7 c1 c2 c3 c4 c5 c6 c7 d1 d2 d3 d4 d5 d6 d7 hf hr hz hkw HK hx1 hx2 hx3 hx4;go_enter Tryz.func112,Tryz.ntmps112;go_upto_region 2 with fail
 try simp only [World.heap_size_alloc]
 rw [X1.out.1,X1.out.2.1,X1.out.2.2.1,X1.out.2.2.2];go_wp2_with fail;refine V1.out.mono ?_;rintro e' w4 ⟨rfl,h1,h2,h3⟩;have r4:=(h3 (w.heap.size + 1)(by simp) KP.out.2.2.2.1 (by omega)).trans KP.out.2.1;have z4:=(h3 (w.heap.size + 1 + 1)(by simp) KP.out.2.2.2.2.1 (by omega)).trans KP.out.2.2.1;obtain ⟨⟨d0,d1,d2⟩,g0,g1,g2⟩:=gI r4;obtain ⟨⟨z0,z1,z2⟩,_⟩:=gI z4;obtain ⟨⟨v0,v1,v2⟩,_⟩:=gI h2;obtain ⟨n1,n2⟩:=ZE r4 (.int .i64 y0)(.string y1)(.string y2)
 have FIN:Hid ((stR w4 (w.heap.size + 1)(.int .i64 y0)(.string y1)(.string y2)).heap[w.heap.size + 1]?=some (.cells #[.int .i64 y0,.string y1,.string y2] 115)∧TxS w0 R (stR w4 (w.heap.size + 1)(.int .i64 y0)(.string y1)(.string y2)) t d s n E'∧KeptT R t w (stR w4 (w.heap.size + 1)(.int .i64 y0)(.string y1)(.string y2))):=Hd (by
  have g1:=h1.turn (k:=w.heap.size + 1)(by simp) KP.out.2.2.2.1 (by have:=KQ.out.2.2.2.1; omega) n2;refine ⟨n1,g1.sub (fun k hk=>by simp [hk]),fun k hk hn=>?_⟩
  have hk1:k ≠ w.heap.size + 1:=fun e=>by
   have:=KQ.out.2.2.2.2.2.2.1 k (by simp [hk]);exact this e
  refine (n2.block k (h1.lt.1 k (by simp [hk])) hk1).trans ((h3 k (by simp [hk]) hn (KP.out.2.2.2.2.2 k (by simp [hk]))).trans (KP.out.1 k hk hn)))
 clear h1 h2 h3 V1 r4 z4 n1 n2 KP KQ;unfold stR at FIN
 rcases HE.out with ⟨rfl,rfl,rfl,rfl⟩ | ⟨hne,rfl,rfl,rfl⟩
 ·go_wp2_with fail
  exact bodyPost_ret (v:=.tuple #[.agg #[.int .i64 y0,.string y1,.string y2],.int .i64 0])(aQ (fn:=Tryz.f112) rfl _ _ (w.heap.size + 1) 115 _ (0,0) _ _ rfl rfl FIN.out.1 Tryz.underlying115 rfl mB) rfl ⟨rfl,FIN.out.2⟩
 ·have hn1:(e == 0)=false:=by simpa using hne
  have hn2:(e != 0)=true:=by simp [hne]
  clear hne;go_wp2_with fail;exact bodyPost_ret (v:=.tuple #[.agg #[.int .i64 0,.string ⟨#[]⟩,.string ⟨#[]⟩],.int .i64 e])(aQ (fn:=Tryz.f112) rfl _ _ (w.heap.size + 1) 115 _ (0,0) _ _ rfl rfl FIN.out.1 Tryz.underlying115 rfl mB) rfl ⟨rfl,FIN.out.2⟩
theorem aBM {w0 w:World} {R:List Nat} {t d s n:Nat} {E E' : List Ent} {m:Int} {x e y:Int} (h:TxS w0 R w t d s n E)(he:(e=0∧y=x) ∨ (e ≠ 0∧y=0))
  (HC:∀ (R' : List Nat)(wa:World)(b0 b1:Nat),TxS w0 R' wa t d s n E → (wa.heap[b0]?=some (.cells #[.pointer (some ⟨t,0,none⟩)] 24)) → (wa.heap[b1]?=some (.cells #[.int .i64 m] 3)) → ((b0 ∈ R'∧b0 ≠ t)∧(b1 ∈ R'∧b1 ≠ t)) → Calls Tryz.prog 135 #[.pointer (some ⟨b1,0,none⟩),.pointer (some ⟨b0,0,none⟩)] wa fun e' w' => e'=.returned (.tuple #[.int .i64 x,.int .i64 e])∧TxS w0 R' w' t d s n E'∧KeptT R' t wa w') :
  Calls Tryz.prog 114 #[.pointer (some ⟨t,0,none⟩),.int .i64 m] w fun e' w' => e'=.returned (.tuple #[.int .i64 y,.int .i64 e])∧TxS w0 R w' t d s n E'∧KeptT R t w w' := by
 obtain ⟨a1,a2,a3,a4,a5,a6,a7⟩:=h.box (.cells #[.pointer (some ⟨t,0,none⟩)] 24);obtain ⟨x1,hx1⟩:∃ x1,w.alloc (.cells #[.pointer (some ⟨t,0,none⟩)] 24)=x1:=⟨_,rfl⟩
 rw [hx1] at a1 a2 a3 a5;obtain ⟨b1,b2,b3,b4,b5,b6,b7⟩:=a1.box (.cells #[.int .i64 m] 3);obtain ⟨x2,hx2⟩:∃ x2,x1.alloc (.cells #[.int .i64 m] 3)=x2:=⟨_,rfl⟩
 rw [hx2] at b1 b2 b3 b5;rw [a5] at b1 b3 b4 b5 b6 b7;have hkw:KeptT R t w x2:=a2.trans (b2.sub (fun k hk=>by simp [hk]))
 have VC:=Hd (pT (hk:=fun w=>by kernel_rfl)(n:=n)(E' := E')(x:=x)(e:=e)(y:=y)(caps:=#[.pointer (some ⟨w.heap.size + 1,0,none⟩),.pointer (some ⟨w.heap.size,0,none⟩)]) b1 he (fun R' wa hs hT hK=>HC R' wa (w.heap.size)(w.heap.size + 1) hT ((hK (w.heap.size)(by simp) a4).trans ((b2 (w.heap.size)(by simp) a4).trans (a3)))((hK (w.heap.size + 1)(by simp) b4).trans (b3)) ⟨⟨hs (w.heap.size)(by simp),a4⟩,⟨hs (w.heap.size + 1)(by simp),b4⟩⟩));have KP:=Hd hkw;have bx:=(aM ((b2 (w.heap.size)(by simp) a4).trans (a3))).1;have X1:=Hd (And.intro hx1 hx2)
 clear h he HC hkw a1 a2 a3 a4 a5 a6 a7 b1 b2 b3 b4 b5 b6 b7 hx1 hx2;go_enter Tryz.func114,Tryz.ntmps114;go_upto_region 1 with fail
 try simp only [World.heap_size_alloc]
 rw [X1.out.1,X1.out.2];go_wp2_with fail;refine VC.out.mono ?_;rintro e' w2 ⟨rfl,h1,h2⟩;have FIN:Hid (TxS w0 R w2 t d s n E'∧KeptT R t w w2):=Hd ⟨h1.sub (fun k hk=>by simp [hk]),KP.out.trans (h2.sub (fun k hk=>by simp [hk]))⟩;clear h1 h2 VC bx;go_wp2_with fail;go_ret2;exact ⟨rfl,FIN.out⟩
theorem WQ {w0 w:World} {R:List Nat} {t d s n:Nat} {E E' : List Ent}  {e:Int} {c0:Int} {c1:ByteArray} {c2:ByteArray} {y0:Int} {y1:ByteArray} {y2:ByteArray} (h:TxS w0 R w t d s n E)(he:(e=0∧y0=c0∧y1=c1∧y2=c2) ∨ (e ≠ 0∧y0=0∧y1=⟨#[]⟩∧y2=⟨#[]⟩))
  (HC:∀ (R' : List Nat)(wa:World)(p0:Nat),TxS w0 R' wa t d s n E → (wa.heap[p0]?=some (.cells #[.pointer (some ⟨t,0,none⟩)] 24)) → ((p0 ∈ R'∧p0 ≠ t)) → Calls Tryz.prog 113 #[.pointer (some ⟨p0,0,none⟩)] wa fun e' w' => e'=.returned (.tuple #[.agg #[.int .i64 c0,.string c1,.string c2],.int .i64 e])∧TxS w0 R' w' t d s n E'∧KeptT R' t wa w') :
  Calls Tryz.prog 72 #[.pointer (some ⟨t,0,none⟩)] w fun e' w' => e'=.returned (.tuple #[.agg #[.int .i64 y0,.string y1,.string y2],.int .i64 e])∧TxS w0 R w' t d s n E'∧KeptT R t w w' := by
 obtain ⟨a1,a2,a3,a4,a5,a6,a7⟩:=h.box (.cells #[.pointer (some ⟨t,0,none⟩)] 24);obtain ⟨x1,hx1⟩:∃ x1,w.alloc (.cells #[.pointer (some ⟨t,0,none⟩)] 24)=x1:=⟨_,rfl⟩
 rw [hx1] at a1 a2 a3 a5;obtain ⟨b1,b2,b3,b4,b5,b6,b7⟩:=a1.box (.cells #[.int .i64 0,.string ⟨#[]⟩,.string ⟨#[]⟩] 115);obtain ⟨x2,hx2⟩:∃ x2,x1.alloc (.cells #[.int .i64 0,.string ⟨#[]⟩,.string ⟨#[]⟩] 115)=x2:=⟨_,rfl⟩
 rw [hx2] at b1 b2 b3 b5;rw [a5] at b1 b3 b4 b5 b6 b7;have hkw:KeptT R t w x2:=a2.trans (b2.sub (fun k hk=>by simp [hk]));have VC:=Hd (PN (hk:=fun w=>by kernel_rfl)(n:=n)(E' := E')(caps:=#[.pointer (some ⟨w.heap.size,0,none⟩)]) b1 he (fun R' wa hs hT hK=>HC R' wa (w.heap.size) hT ((hK (w.heap.size)(by simp) a4).trans ((b2 (w.heap.size)(by simp) a4).trans (a3))) ⟨hs (w.heap.size)(by simp),a4⟩));have KP:=Hd (And.intro hkw (And.intro b3 (And.intro b4 (And.intro b6 (show ∀ k ∈ R,k ≠ w.heap.size + 1 from fun k hk=>b7 k (by simp [hk]))))))
 have bx:=(aM ((b2 (w.heap.size)(by simp) a4).trans (a3))).1;have X1:=Hd (And.intro hx1 hx2);clear h he HC hkw a1 a2 a3 a4 a5 a6 a7 b1 b2 b3 b4 b5 b6 b7 hx1 hx2;go_enter Tryz.func72,Tryz.ntmps72;go_upto_region 1 with fail
 try simp only [World.heap_size_alloc]
 rw [X1.out.1,X1.out.2];go_wp2_with fail;refine VC.out.mono ?_;rintro e' w2 ⟨rfl,h1,h2⟩;have r4:=(h2 (w.heap.size + 1)(by simp) KP.out.2.2.1).trans KP.out.2.1;obtain ⟨⟨q0,q1,q2⟩,u0,u1,u2⟩:=gI r4;obtain ⟨n1,n2⟩:=ZE r4 (.int .i64 y0)(.string y1)(.string y2)
 have FIN:Hid ((stR w2 (w.heap.size + 1)(.int .i64 y0)(.string y1)(.string y2)).heap[w.heap.size + 1]?=some (.cells #[.int .i64 y0,.string y1,.string y2] 115)∧TxS w0 R (stR w2 (w.heap.size + 1)(.int .i64 y0)(.string y1)(.string y2)) t d s n E'∧KeptT R t w (stR w2 (w.heap.size + 1)(.int .i64 y0)(.string y1)(.string y2))):=Hd (by
  refine ⟨n1,(h1.turn (k:=w.heap.size + 1)(by simp) KP.out.2.2.1 KP.out.2.2.2.1 n2).sub (fun k hk=>by simp [hk]),fun k hk hn=>?_⟩;exact (n2.block k (h1.lt.1 k (by simp [hk]))(KP.out.2.2.2.2 k hk)).trans ((h2 k (by simp [hk]) hn).trans (KP.out.1 k hk hn)))
 clear h1 h2 VC r4 n1 n2 bx;unfold stR at FIN;go_wp2_with fail;exact bodyPost_ret (v:=.tuple #[.agg #[.int .i64 y0,.string y1,.string y2],.int .i64 e])(aQ (fn:=Tryz.f72) rfl _ _ (w.heap.size + 1) 115 _ (0,0) _ _ rfl rfl FIN.out.1 Tryz.underlying115 rfl mB) rfl ⟨rfl,FIN.out.2⟩
theorem oN (m q:Int)(w:World)(hq:iJ 9 0 m=q) :
  Calls Tryz.prog 73 #[.int .i64 m] w fun e w' => e=.returned (.int .u64 q)∧w=w' := by
 have HQ:=Hd hq;clear hq;go_enter Tryz.func73,Tryz.ntmps73;go_wp2_with fail;refine (oQ _ _ _ _).mono ?_;rw [HQ.out];rintro e w1 ⟨rfl,rfl⟩;go_wp2_with fail;go_ret;exact ⟨rfl,rfl⟩
theorem wV {w0 w:World} {R:List Nat} {t d s n:Nat} {E:List Ent} {bn bt:Nat} {m q:Int} (h:TxS w0 R w t d s n E)(hn:w.heap[bn]?=some (.cells #[.int .i64 m] 3))(hb:w.heap[bt]?=some (.cells #[.pointer (some ⟨t,0,none⟩)] 24))(hm:(bn ∈ R∧bn ≠ t)∧(bt ∈ R∧bt ≠ t))(hE:E.length ≤ 600)(hq:iJ 9 0 m=q∧fZ 9 0 m=true)(hg:iK q E=false) :
  Calls Tryz.prog 135 #[.pointer (some ⟨bn,0,none⟩),.pointer (some ⟨bt,0,none⟩)] w fun e w' => e=.returned (.tuple #[.int .i64 0,.int .i64 0])∧TxS w0 R w' t d s n E∧KeptT R t w w' := by
 have hqr:=rE 9 0 m;rw [hq.1] at hqr;have GE:=Hd (CH (key:=q) h hE hqr ⟨#[]⟩ false (by unfold gX iK at *; revert hg; cases mK q E <;> simp) hg);clear hg;have KY:=Hd (fun w=>by have:=oQ 9 0 m w; rw [hq.1,hq.2] at this; exact this);have c0:=(aM hn).1;have c1:=(aM hb).1;clear h hn hb hm hE hq hqr;go_enter Tryz.func135,Tryz.ntmps135;go_wp2_with fail;refine (KY.out _).mono ?_;rintro e w1 ⟨rfl,rfl⟩;go_wp2_with fail;refine GE.out.mono ?_;rintro e w2 ⟨rfl,h1,h2⟩;have FIN:=Hd (And.intro h1 h2);clear h1 h2 GE c0 c1;go_wp2_with fail;go_ret2
 exact ⟨rfl,FIN.out⟩
theorem wU {w0 w:World} {R:List Nat} {t d s n:Nat} {E:List Ent} {bn bt:Nat} {m q:Int} (h:TxS w0 R w t d s n E)(hn:w.heap[bn]?=some (.cells #[.int .i64 m] 3))(hb:w.heap[bt]?=some (.cells #[.pointer (some ⟨t,0,none⟩)] 24))(hm:(bn ∈ R∧bn ≠ t)∧(bt ∈ R∧bt ≠ t))(hE:E.length ≤ 600)(hq:iJ 9 0 m=q∧fZ 9 0 m=true) {v:Int} (hg:iK q E=true)(hv:gX q E=Str (aL v 3))(h0:0 ≤ v)(h1:v ≤ 16777215) :
  Calls Tryz.prog 135 #[.pointer (some ⟨bn,0,none⟩),.pointer (some ⟨bt,0,none⟩)] w fun e w' => e=.returned (.tuple #[.int .i64 v,.int .i64 0])∧TxS w0 R w' t d s n E∧KeptT R t w w' := by
 have hqr:=rE 9 0 m;rw [hq.1] at hqr;obtain ⟨q1,q2,q3,q4⟩:=BD h0 h1;obtain ⟨X,hX⟩:∃ X,Str (aL v 3)=X:=⟨_,rfl⟩
 rw [hX] at q1 q2 q3 hv;have TA:=Hd (fun w=>by have:=dQ X 3 w; rw [q1,q2,q3] at this; exact this);have GE:=Hd (CH (key:=q) h hE hqr X true hv hg);have hw1:IntKind.i64.wrap v=v:=IntWalk.i64_in _ (by omega);clear hg hv h0 h1 q1 q2 q3 q4 hX;have KY:=Hd (fun w=>by have:=oQ 9 0 m w; rw [hq.1,hq.2] at this; exact this);have c0:=(aM hn).1;have c1:=(aM hb).1;clear h hn hb hm hE hq hqr;go_enter Tryz.func135,Tryz.ntmps135;go_wp2_with fail;refine (KY.out _).mono ?_;rintro e w1 ⟨rfl,rfl⟩;go_wp2_with fail;refine GE.out.mono ?_;rintro e w2 ⟨rfl,h1,h2⟩
 have FIN:=Hd (And.intro h1 h2);clear h1 h2 GE c0 c1;go_wp2_with fail;refine (TA.out _).mono ?_;rintro e w8 ⟨rfl,b8⟩;have F8:=Hd (And.intro (FIN.out.1.below b8)(FIN.out.2.trans (FIN.out.1.kept b8)));clear b8 FIN;go_wp2_with fail;go_ret2;exact ⟨rfl,F8.out⟩
theorem aBN {w0 w:World} {R:List Nat} {t d s n:Nat} {E:List Ent} {m q v:Int} (h:TxS w0 R w t d s n E)(hE:E.length ≤ 600)(hq:iJ 9 0 m=q∧fZ 9 0 m=true)(hn:NumE E q v) :
  Calls Tryz.prog 114 #[.pointer (some ⟨t,0,none⟩),.int .i64 m] w fun e w' => e=.returned (.tuple #[.int .i64 v,.int .i64 0])∧TxS w0 R w' t d s n E∧KeptT R t w w' :=
 aBM h (.inl ⟨rfl,rfl⟩) fun R' wa b0 b1 hT g0 g1 gm=>by
  rcases hn with ⟨k1,rfl⟩ | ⟨k1,k2,k3,k4⟩
  ·exact wV hT g1 g0 ⟨gm.2,gm.1⟩ hE hq k1
  ·exact wU hT g1 g0 ⟨gm.2,gm.1⟩ hE hq k1 k2 k3 k4
theorem WA {w0 w:World} {R:List Nat} {t d s n:Nat} {E:List Ent} {bt:Nat} {v:Int} {a b:ByteArray} (h:TxS w0 R w t d s n E)(hb:w.heap[bt]?=some (.cells #[.pointer (some ⟨t,0,none⟩)] 24))(hm:bt ∈ R∧bt ≠ t)(hE:E.length ≤ 600)(hr:RingE E v a b) :
  Calls Tryz.prog 113 #[.pointer (some ⟨bt,0,none⟩)] w fun e w' => e=.returned (.tuple #[.agg #[.int .i64 v,.string a,.string b],.int .i64 0])∧TxS w0 R w' t d s n E∧KeptT R t w w' := by
 obtain ⟨a1,a2,a3,a4,a5,a6,a7⟩:=h.box (.cells #[.int .i64 0,.string ⟨#[]⟩,.string ⟨#[]⟩] 115);obtain ⟨r3,hr3⟩:∃ r3,w.heap.size=r3:=⟨_,rfl⟩
 obtain ⟨x1,hx1⟩:∃ x1,w.alloc (.cells #[.int .i64 0,.string ⟨#[]⟩,.string ⟨#[]⟩] 115)=x1:=⟨_,rfl⟩
 rw [hx1] at a1 a2 a3 a5;rw [hr3] at a1 a3 a4 a5 a6 a7;have X1:=Hd hx1;have HR4:=Hd (And.intro a6 a7);have A3:=Hd (And.intro a3 a4);have A2:=Hd a2;have hb1:=(a2 bt hm.1 hm.2).trans hb;have d0:=(aM hb1).1;have HB1:=Hd hb1;have HM:=Hd hm;have HE:=Hd hE;have HR:=Hd hr;have e1:¬ (65535:Int) < v:=by have:=hr.range; omega
 have NU:=Hd (aBN (m:=5)(q:=10376293541461622789) a1 hE ⟨by decide,by decide⟩ hr.num);clear h hb hm hE hr a1 a2 a3 a4 a5 a6 a7 hx1 hb1;go_enter Tryz.func113,Tryz.ntmps113;go_upto_region 1 with fail
 rw [X1.out];clear hr3;go_wp2_with fail;refine NU.out.mono ?_;rintro e w3 ⟨rfl,h1,h2⟩;have F3:=Hd (And.intro (h1.below Br.drew)(show KeptT (r3 :: R) t x1 w3.drew from h2));have hA:=Hd (show w3.drew.heap[bt]?=some (.cells #[.pointer (some ⟨t,0,none⟩)] 24) from (h2 bt (by simp [HM.out.1]) HM.out.2).trans HB1.out);have GN:=Hd (CH (key:=10376293541461622790)(h1.below Br.drew) HE.out (by decide) a (iK 10376293541461622790 E) HR.out.now rfl);clear h1 h2 NU d0;go_upto_region 4 with fail
 refine wp_region_held_drew (S:=fun w' => w'.heap[bt]?=some (.cells #[.pointer (some ⟨t,0,none⟩)] 24))(by kernel_rfl) hA.out (fun hS=>?_);refine Hv 0 21 ?va0x1 hS ?ha0x1 ?_
 case ha0x1 =>
  intro w9 s9;have k9:=(aM s9).1;clear s9;go_simp;try (with_reducible rfl)
 simp only [SL];refine Hs 1 (fun K HK=>?_);go_simp;go_wp2_with fail;refine (oN 6 10376293541461622790 _ (by decide)).mono ?_;rintro e w6 ⟨rfl,rfl⟩;refine HK.out _ _ ?_ ?_
 ·exact hS
 clear HK K;try simp only [Act.put,SL]
 refine Hs 2 (fun K HK=>?_);go_simp;go_wp2_with fail;refine GN.out.mono ?_;rintro e w7 ⟨rfl,h1,h2⟩;refine HK.out _ _ ?_ ?_
 ·exact (h2 bt (by simp [HM.out.1]) HM.out.2).trans hS
 clear HK K;try simp only [Act.put,SL]
 have hS9:=(h2 bt (by simp [HM.out.1]) HM.out.2).trans hS;clear hS;have hS:=hS9;clear hS9;have F4:=Hd (And.intro h1 (F3.out.2.trans (h2)));clear h1 h2 GN F3;refine Hu 3 20 hS ?_;simp only [SL];refine Hu 4 24 hS ?_;simp only [SL];refine Hu 5 25 hS ?_;simp only [SL];refine Hu 6 5 hS ?_;simp only [SL];refine Hu 7 6 hS ?_;simp only [SL];refine wpAnyH_done (by kernel_rfl) ?_ _;have hB:=Hd (show w7.drew.heap[bt]?=some (.cells #[.pointer (some ⟨t,0,none⟩)] 24) from hS);clear hS
 have GL:=Hd (CH (key:=10376293541461622791)(F4.out.1.below Br.drew) HE.out (by decide) b (iK 10376293541461622791 E) HR.out.last rfl);go_upto_region 5 with fail
 refine wp_region_held_drew (S:=fun w' => w'.heap[bt]?=some (.cells #[.pointer (some ⟨t,0,none⟩)] 24))(by kernel_rfl) hB.out (fun hS=>?_);refine Hv 0 27 ?vb0x1 hS ?hb0x1 ?_
 case hb0x1 =>
  intro w9 s9;have k9:=(aM s9).1;clear s9;go_simp;try (with_reducible rfl)
 simp only [SL];refine Hs 1 (fun K HK=>?_);go_simp;go_wp2_with fail;refine (oN 7 10376293541461622791 _ (by decide)).mono ?_;rintro e w6 ⟨rfl,rfl⟩;refine HK.out _ _ ?_ ?_
 ·exact hS
 clear HK K;try simp only [Act.put,SL]
 refine Hs 2 (fun K HK=>?_);go_simp;go_wp2_with fail;refine GL.out.mono ?_;rintro e w7 ⟨rfl,h1,h2⟩;refine HK.out _ _ ?_ ?_
 ·exact (h2 bt (by simp [HM.out.1]) HM.out.2).trans hS
 clear HK K;try simp only [Act.put,SL]
 have hS9:=(h2 bt (by simp [HM.out.1]) HM.out.2).trans hS;clear hS;have hS:=hS9;clear hS9;have F5:=Hd (And.intro h1 (F4.out.2.trans (h2)));clear h1 h2 GL F4;refine Hu 3 26 hS ?_;simp only [SL];refine Hu 4 30 hS ?_;simp only [SL];refine Hu 5 31 hS ?_;simp only [SL];refine Hu 6 7 hS ?_;simp only [SL];refine Hu 7 8 hS ?_;simp only [SL];refine wpAnyH_done (by kernel_rfl) ?_ _;have r7:=(F5.out.2 r3 (by simp) A3.out.2).trans A3.out.1;obtain ⟨⟨y0,y1,y2⟩,u0,u1,u2⟩:=gI r7;obtain ⟨n1,n2⟩:=ZE r7 (.int .i64 v)(.string a)(.string b)
 have FIN:Hid ((stR w7 r3 (.int .i64 v)(.string a)(.string b)).heap[r3]?=some (.cells #[.int .i64 v,.string a,.string b] 115)∧TxS w0 R (stR w7 r3 (.int .i64 v)(.string a)(.string b)) t d s n E∧KeptT R t w (stR w7 r3 (.int .i64 v)(.string a)(.string b))):=Hd (by
  refine ⟨n1,(F5.out.1.turn (k:=r3)(by simp) A3.out.2 HR4.out.1 n2).sub (fun k hk=>by simp [hk]),fun k hk hn=>?_⟩;exact (n2.block k (F5.out.1.lt.1 k (by simp [hk]))(HR4.out.2 k hk)).trans ((F5.out.2 k (by simp [hk]) hn).trans (A2.out k hk hn)))
 unfold stR at FIN;clear n1 n2 r7 hS;go_wp2_with fail;exact bodyPost_ret (v:=.tuple #[.agg #[.int .i64 v,.string a,.string b],.int .i64 0])(aQ (fn:=Tryz.f113) rfl _ _ r3 115 _ (0,0) _ _ rfl rfl FIN.out.1 Tryz.underlying115 rfl mB) rfl ⟨rfl,FIN.out.2⟩
theorem tI {w0 w:World} {R:List Nat} {t d s n:Nat} {E:List Ent} {v:Int} {a b:ByteArray} (h:TxS w0 R w t d s n E)(hE:E.length ≤ 600)(hr:RingE E v a b) :
  Calls Tryz.prog 72 #[.pointer (some ⟨t,0,none⟩)] w fun e w' => e=.returned (.tuple #[.agg #[.int .i64 v,.string a,.string b],.int .i64 0])∧TxS w0 R w' t d s n E∧KeptT R t w w' :=
 WQ h (.inl ⟨rfl,rfl,rfl,rfl⟩) fun R' wa p0 hT g0 gm=>WA hT g0 gm hE hr
end Go.Proofs.YthcejfnngkmojaaGreatDoor
