/-
 Tail.
-/
import Derived.Test.YthcejfnngkmojaaGreatDoorPzArr
import Derived.Test.YthcejfnngkmojaaGreatDoorPzBuf
import Derived.Test.YthcejfnngkmojaaGreatDoorPzSha1
import Derived.Lib.OthersKept
import Derived.Room.AppendOnto
import Derived.Test.YthcejfnngkmojaaGreatDoorPzTape
import Derived.Deep.LoopGhost
namespace Go.Proofs.YthcejfnngkmojaaGreatDoor
open Go.RowKit
set_option maxRecDepth 20000
set_option maxHeartbeats 12800000
set_option linter.unusedVariables false
set_option linter.unusedSimpArgs false
theorem RQ (w:World) (s:ByteArray) (cap:Nat) (hc:s.size≤cap) :
  Came (w.drew.alloc (.cells (bytesRow s cap) 5 ((bytesRow s cap).size,(bytesRow s cap).size + 1))) 1 (some ⟨w.heap.size,0,none⟩) w.heap.size 0 s.size cap (s.data.toList.map fun b=>Value.int .u8 (b.toNat:Int)):=by
 have hsz:(bytesRow s cap).size=cap:=by
  have:s.data.size=s.size:=rfl;simp [bytesRow]; omega
 have hl:s.data.toList.length=s.size:=by simp
 refine ⟨hc,fun _=>rfl,fun _=>by simp,by simp,fun j u hu=>?_,fun j hj=>?_⟩
 ·obtain ⟨hj,he⟩:=List.getElem?_eq_some_iff.1 hu
  rw [List.length_map] at hj;have h:=(Buf.made w s cap).cell j hj;rw [List.getElem_map] at he;rw [Nat.zero_add,h,he]
 ·have hh:=heap_alloc_new w.drew (.cells (bytesRow s cap) 5 ((bytesRow s cap).size,(bytesRow s cap).size + 1))
  have hd:w.drew.heap.size=w.heap.size:=rfl;rw [hd] at hh;have hj' : 0 + s.size * 1 + j < (bytesRow s cap).size:=by rw [hsz]; omega
  refine ⟨?_,?_⟩
  ·rw [cell_of_row _ w.heap.size _ (bytesRow s cap) 5 _ hh,Array.getElem?_eq_getElem hj']
   rfl
  ·simp only [World.frozen?,hh]
   simp;omega
theorem aA3:(Tryz.prog.info? 5).map (fun i=>(i.zero,i.size,i.bytes))=some (some (.int .u8 0),1,1):=by kernel_rfl
def vbS (b:UInt8):Value:=.int .u8 (b.toNat:Int)
structure GrownS (W:World) (b cap:Nat) (s0:List UInt8) (w:World) (v:Value) (ks:List UInt8):Prop where
 onto:Onto W 5 1 (some ⟨b,0,none⟩) b 0 s0.length cap (s0.map vbS) w v ks.length (ks.map vbS)
 tape:w.tape=W.tape
theorem GrownS.shape {W:World} {b cap:Nat} {s0:List UInt8} {w:World} {v:Value} {ks:List UInt8} (h:GrownS W b cap s0 w v ks):∃ base c', v=.slice base (s0.length + ks.length) c' := by
 obtain ⟨base,c', hv,_⟩:=h.onto.shape';exact ⟨base,c', hv⟩
theorem GrownS.below {W:World} {b cap:Nat} {s0:List UInt8} {w:World} {v:Value} {ks:List UInt8} (h:GrownS W b cap s0 w v ks) (hb:b≤W.heap.size):Below b W w:=by
 obtain ⟨h1,h2,h3⟩:=h.onto.kept;refine ⟨h1,h.tape,h2,h.onto.kept.size,fun k hk=>?_⟩;have h4:=h3 k (by omega)
 cases hW:W.heap[k]? with
 | none =>
  have:=Array.getElem?_eq_none_iff.1 hW;omega
 | some o =>
  rw [hW] at h4
  cases hw:w.heap[k]? with
  | none=>rw [hw] at h4; cases o <;> cases h4
  | some o' =>
   rw [hw] at h4
   cases o <;> cases o' <;> (try exact h4)
   ·obtain ⟨rfl,rfl,hs,hc⟩:=h4
    exact congrArg (fun z=>some (Obj.cells z _ _)) (Array.ext_getElem? fun j=>hc j (by rintro ⟨j', _,_,e⟩; simp at e; omega))
   ·rcases h4 with ⟨j', _,_,e⟩ | ⟨rfl,rfl⟩
    ·cases e
    ·rfl
theorem GrownS.conv {W:World} {b cap:Nat} {s0:List UInt8} {w:World} {v:Value} {ks:List UInt8} (h:GrownS W b cap s0 w v ks) (hc:Came W 1 (some ⟨b,0,none⟩) b 0 s0.length cap (s0.map vbS)) (hmax:cap≤maxLen) (hpos:0 < ks.length) :
  (convert 31 9 v).run Tryz.prog w=.ok (.string (Str (s0 ++ ks))) w:=by
 obtain ⟨g,o', cap', rfl,_,_,hcell⟩:=h.onto.value hc hmax (Or.inr hpos);have hl:(s0 ++ ks).length=s0.length + ks.length:=by simp
 rw [← hl];refine run_convert_bytes_back (P:=Tryz.prog) w 31 9 5 ⟨g,o', none⟩ cap' (s0 ++ ks) Tryz.underlying31 Tryz.underlying5 Tryz.underlying9 (fun j hj=>?_);rw [bU];have:=hcell j (by omega);rw [← List.map_append,List.getElem?_map,List.getElem?_eq_getElem hj] at this;exact this
theorem cB (w:World) {ops:Array Oper} {rest:List Oper} {o:Oper} {a:Act} {Q:Exit→Act→World→Prop} (hgd:o.guard=none) (s x:Operand)
  (ho:o.op=.call { callee:=.builtin .append,args:=#[s,x],argTypes:=#[31,31] })
  {W:World} {b cap:Nat} {s0 ks:List UInt8} {v:Value} (hc:Came W 1 (some ⟨b,0,none⟩) b 0 s0.length cap (s0.map vbS)) (hs:a.eval s=v) (h:GrownS W b cap s0 w v ks)
  (ad:Addr) (c:Nat) (n:UInt8) (hx:a.eval x=.slice (some ad) 1 c) (hn:w.cell? ad=some (vbS n)) (hlen:s0.length + ks.length + 1≤65536)
  (hK:∀ v' w', GrownS W b cap s0 w' v' (ks ++ [n])→wpList Tryz.prog ops Q rest (a.put o.dst v') w'):wpList Tryz.prog ops Q (o :: rest) a w:=by
 obtain ⟨i0,hi,hz0,hz1,hz2⟩:=info_parts aA3;refine wpList_plain hgd fun K hK' => ?_
 obtain ⟨v', w', hrun,r⟩:=run_append_onto (P:=Tryz.prog) hc 31 o.type i0 (.int .u8 0) 1 Tryz.underlying31 hi hz0 hz1 hz2 rfl (by decide) h.onto ad c [vbS n] rfl
  (by intro j u hj; match j,hj with
    | 0,hj=>simp at hj; subst hj; simpa [Addr.add] using hn)
  (by intro u hu; simp at hu; subst hu; rfl) (by unfold maxLen; omega) (by omega)
 unfold Oper.wp execOp;simp only [ho,resolve,invoke,builtin,Sem.run_bind,Sem.run_pure,Result.andThen_ok,List.map_toArray,List.map_cons,List.map_nil,hs,hx,hrun];refine hK' _ _ (hK v' w' ⟨?_,(UE _ _ _ _ _ hrun).trans h.tape⟩)
 simpa using r
theorem GrownS.start {W:World} {b cap:Nat} {s0:List UInt8} (hc:Came W 1 (some ⟨b,0,none⟩) b 0 s0.length cap (s0.map vbS)):GrownS W b cap s0 W (.slice (some ⟨b,0,none⟩) s0.length cap) []:=⟨Onto.start hc,rfl⟩
theorem GrownS.alloc {W:World} {b cap:Nat} {s0:List UInt8} {w:World} {v:Value} {ks:List UInt8} (h:GrownS W b cap s0 w v ks) (hc:Came W 1 (some ⟨b,0,none⟩) b 0 s0.length cap (s0.map vbS)) (o:Obj):GrownS W b cap s0 (w.alloc o) v ks:=⟨h.onto.alloc hc o,h.tape⟩
theorem aC0 (w:World) (s:ByteArray) (l:List UInt8) (hl:s.data.toList=l) (h:s.size≤maxLen):∃ cap w2,(convert 9 31 (.string s)).run Tryz.prog w=.ok (.slice (some ⟨w.heap.size,0,none⟩) (l.length:Nat) cap) w2∧Came w2 1 (some ⟨w.heap.size,0,none⟩) w.heap.size 0 l.length cap (l.map vbS)∧cap≤maxLen∧Below w.heap.size w w2∧w.heap.size < w2.heap.size:=by
 have hsz:s.size=l.length:=by rw [← hl]; simp
 have hr:=run_bytes_of_string (P:=Tryz.prog) w 9 31 5 s Tryz.underlying9 Tryz.underlying31 Tryz.underlying5;have hc:=RQ w s (grownCap w s.size 0 5) (grownCap_ge _ _ _ _);rw [hsz,hl] at hc;rw [hsz] at hr h;exact ⟨_,_,hr,hc,grownCap_le_maxLen w _ 0 _ h,(Br.drew).alloc (Nat.le_refl _) _,by simp⟩
def tkS (Z N j:Nat):List UInt8:=0x80 :: List.replicate Z 0 ++ (M.be 8 N).take j
theorem bQ (Z N j:Nat) (h:j≤8):(tkS Z N j).length=Z + 1 + j:=by
 unfold tkS; simp [M.be_length]; omega
theorem JU (Z N:Nat):tkS Z N 0=0x80 :: List.replicate Z 0:=by unfold tkS; simp
theorem dD (Z N j:Nat) (h:j < 8):tkS Z N j ++ [UInt8.ofNat (N / 256 ^ (7 - j) % 256)]=tkS Z N (j + 1):=by
 unfold tkS;rw [List.append_assoc,List.take_add_one,M.be_get 8 N j h]
 rfl
theorem YX (l:List UInt8) (size:Nat):l ++ tkS (S.zeros l.length) (size * 8) 8=S.tail l size:=by
 unfold tkS S.tail;rw [List.take_of_length_le (by rw [M.be_length]; omega)];simp
theorem gV (x:Nat) (h:x < 256):vbS (UInt8.ofNat x)=.int .u8 (x:Int):=by
 unfold vbS; simp [Nat.mod_eq_of_lt h]
theorem MW (s:ByteArray) (l:List UInt8) (hl:s.data.toList=l) (size:Nat) (hs:l.length < 64) (hz:size≤140737488355328) (w:World) :
  Calls Tryz.prog 155 #[.string s,.int .i64 (size:Int)] w fun e w' => e=.returned (.string (Str (S.tail l size)))∧Below w.heap.size w w' := by
 have hsz:s.size=l.length:=by rw [← hl]; simp
 have hsm:s.size≤maxLen:=by unfold maxLen; omega
 obtain ⟨cap,w2,hcv,hc,hmax,bw,hlt⟩:=aC0 w s l hl hsm;have G0:=Hd (GrownS.start hc);go_enter Tryz.func155,Tryz.ntmps155
 go_wp2_with (at_builtin; refine cB _ rfl _ _ rfl hc rfl (G0.out.alloc hc _) ⟨w2.heap.size,0,none⟩ 1 0x80 rfl ?c1 ?c2 ?_)
 case c1=>simp [vbS]
 case c2=>simp; omega
 intro v1 w3 G1;obtain ⟨base1,c1,rfl⟩:=G1.shape;have HG1:=Hd G1;clear G0 G1
 have hZ:∀ m:Nat,m≤S.zeros l.length→(((l.length:Int) + 1 + (m:Int)) % 64=56 ↔ m=S.zeros l.length):=by
  intro m hm;unfold S.zeros at hm ⊢;omega
 have hZ64:S.zeros l.length < 64:=by unfold S.zeros; omega
 have HZ:=Hd hZ;clear hZ;go_wp2_with fail
 go_loopg [5] (S.zeros l.length) (fun k v wr=>∃ (m:Nat) (base:Option Addr) (c:Nat),m≤S.zeros l.length∧k=S.zeros l.length - m∧v=.slice base (l.length + (m + 1)) c∧Hid (GrownS w2 w.heap.size cap l wr v (0x80 :: List.replicate m 0)))
 case atStart=>exact ⟨0,base1,c1,Nat.zero_le _,rfl,rfl,HG1⟩
 case round =>
  obtain ⟨m,base,c,hm,rfl,rfl,G⟩:=hrel
  by_cases hmz:m=S.zeros l.length
  ·have hcond:((l.length:Int) + ((m:Int) + 1)) % 64=56:=by have:=(HZ.out m hm).2 hmz; omega
   go_wp2_with fail;clear hcond;subst hmz;generalize (((l.length:Int) + (((S.zeros l.length:Nat):Int) + 1)) % 64 != 56)=bb
   go_loopg [5,22] 8 (fun k v i wr=>∃ (j:Nat) (base:Option Addr) (c:Nat),j≤8∧k=8 - j∧i=.int .i64 (j:Int)∧v=.slice base (l.length + (S.zeros l.length + 1 + j)) c∧Hid (GrownS w2 w.heap.size cap l wr v (tkS (S.zeros l.length) (size * 8) j)))
   case atStart =>
    refine ⟨0,base,c,by omega,rfl,rfl,rfl,Hd ?_⟩;rw [JU];exact G.out
   case round =>
    obtain ⟨j,base,c,hj,rfl,rfl,rfl,G⟩:=hrel
    by_cases hj8:j < 8
    ·obtain rfl | rfl | rfl | rfl | rfl | rfl | rfl | rfl:j=0∨j=1∨j=2∨j=3∨j=4∨j=5∨j=6∨j=7:=by omega
     ·have hby:vbS (UInt8.ofNat (size * 8 / 256 ^ (7 - 0) % 256))=.int .u8 ((size:Int) * 8 / 72057594037927936 % 256):=by
       rw [gV _ (by omega)]; congr 1
      have STEP:=Hd (dD (S.zeros l.length) (size * 8) 0 (by omega));have LEN:=Hd (bQ (S.zeros l.length) (size * 8) 1 (by omega))
      go_wp2_with (at_builtin; refine cB _ rfl _ _ rfl hc rfl (G.out.alloc hc _) ⟨wr.heap.size,0,none⟩ 1 (UInt8.ofNat (size * 8 / 256 ^ (7 - 0) % 256)) rfl ?c1 ?c2 ?_)
      case c1=>rw [hby]; simp <;> omega
      case c2=>have:=bQ (S.zeros l.length) (size * 8) 0 (by omega); omega
      intro v' w' G';rw [STEP.out] at G';obtain ⟨base', c', rfl⟩:=G'.shape;rw [LEN.out] at G';rw [LEN.out];go_wp2_with fail
      go_roundg (8 - (0 + 1))
      case measure=>omega
      case rel=>exact ⟨0 + 1,base', c', by omega,rfl,rfl,rfl,Hd G'⟩
     ·have hby:vbS (UInt8.ofNat (size * 8 / 256 ^ (7 - 1) % 256))=.int .u8 ((size:Int) * 8 / 281474976710656 % 256):=by
       rw [gV _ (by omega)]; congr 1
      have STEP:=Hd (dD (S.zeros l.length) (size * 8) 1 (by omega));have LEN:=Hd (bQ (S.zeros l.length) (size * 8) 2 (by omega))
      go_wp2_with (at_builtin; refine cB _ rfl _ _ rfl hc rfl (G.out.alloc hc _) ⟨wr.heap.size,0,none⟩ 1 (UInt8.ofNat (size * 8 / 256 ^ (7 - 1) % 256)) rfl ?c1 ?c2 ?_)
      case c1=>rw [hby]; simp <;> omega
      case c2=>have:=bQ (S.zeros l.length) (size * 8) 1 (by omega); omega
      intro v' w' G';rw [STEP.out] at G';obtain ⟨base', c', rfl⟩:=G'.shape;rw [LEN.out] at G';rw [LEN.out];go_wp2_with fail
      go_roundg (8 - (1 + 1))
      case measure=>omega
      case rel=>exact ⟨1 + 1,base', c', by omega,rfl,rfl,rfl,Hd G'⟩
     ·have hby:vbS (UInt8.ofNat (size * 8 / 256 ^ (7 - 2) % 256))=.int .u8 ((size:Int) * 8 / 1099511627776 % 256):=by
       rw [gV _ (by omega)]; congr 1
      have STEP:=Hd (dD (S.zeros l.length) (size * 8) 2 (by omega));have LEN:=Hd (bQ (S.zeros l.length) (size * 8) 3 (by omega))
      go_wp2_with (at_builtin; refine cB _ rfl _ _ rfl hc rfl (G.out.alloc hc _) ⟨wr.heap.size,0,none⟩ 1 (UInt8.ofNat (size * 8 / 256 ^ (7 - 2) % 256)) rfl ?c1 ?c2 ?_)
      case c1=>rw [hby]; simp <;> omega
      case c2=>have:=bQ (S.zeros l.length) (size * 8) 2 (by omega); omega
      intro v' w' G';rw [STEP.out] at G';obtain ⟨base', c', rfl⟩:=G'.shape;rw [LEN.out] at G';rw [LEN.out];go_wp2_with fail
      go_roundg (8 - (2 + 1))
      case measure=>omega
      case rel=>exact ⟨2 + 1,base', c', by omega,rfl,rfl,rfl,Hd G'⟩
     ·have hby:vbS (UInt8.ofNat (size * 8 / 256 ^ (7 - 3) % 256))=.int .u8 ((size:Int) * 8 / 4294967296 % 256):=by
       rw [gV _ (by omega)]; congr 1
      have STEP:=Hd (dD (S.zeros l.length) (size * 8) 3 (by omega));have LEN:=Hd (bQ (S.zeros l.length) (size * 8) 4 (by omega))
      go_wp2_with (at_builtin; refine cB _ rfl _ _ rfl hc rfl (G.out.alloc hc _) ⟨wr.heap.size,0,none⟩ 1 (UInt8.ofNat (size * 8 / 256 ^ (7 - 3) % 256)) rfl ?c1 ?c2 ?_)
      case c1=>rw [hby]; simp <;> omega
      case c2=>have:=bQ (S.zeros l.length) (size * 8) 3 (by omega); omega
      intro v' w' G';rw [STEP.out] at G';obtain ⟨base', c', rfl⟩:=G'.shape;rw [LEN.out] at G';rw [LEN.out];go_wp2_with fail
      go_roundg (8 - (3 + 1))
      case measure=>omega
      case rel=>exact ⟨3 + 1,base', c', by omega,rfl,rfl,rfl,Hd G'⟩
     ·have hby:vbS (UInt8.ofNat (size * 8 / 256 ^ (7 - 4) % 256))=.int .u8 ((size:Int) * 8 / 16777216 % 256):=by
       rw [gV _ (by omega)]; congr 1
      have STEP:=Hd (dD (S.zeros l.length) (size * 8) 4 (by omega));have LEN:=Hd (bQ (S.zeros l.length) (size * 8) 5 (by omega))
      go_wp2_with (at_builtin; refine cB _ rfl _ _ rfl hc rfl (G.out.alloc hc _) ⟨wr.heap.size,0,none⟩ 1 (UInt8.ofNat (size * 8 / 256 ^ (7 - 4) % 256)) rfl ?c1 ?c2 ?_)
      case c1=>rw [hby]; simp <;> omega
      case c2=>have:=bQ (S.zeros l.length) (size * 8) 4 (by omega); omega
      intro v' w' G';rw [STEP.out] at G';obtain ⟨base', c', rfl⟩:=G'.shape;rw [LEN.out] at G';rw [LEN.out];go_wp2_with fail
      go_roundg (8 - (4 + 1))
      case measure=>omega
      case rel=>exact ⟨4 + 1,base', c', by omega,rfl,rfl,rfl,Hd G'⟩
     ·have hby:vbS (UInt8.ofNat (size * 8 / 256 ^ (7 - 5) % 256))=.int .u8 ((size:Int) * 8 / 65536 % 256):=by
       rw [gV _ (by omega)]; congr 1
      have STEP:=Hd (dD (S.zeros l.length) (size * 8) 5 (by omega));have LEN:=Hd (bQ (S.zeros l.length) (size * 8) 6 (by omega))
      go_wp2_with (at_builtin; refine cB _ rfl _ _ rfl hc rfl (G.out.alloc hc _) ⟨wr.heap.size,0,none⟩ 1 (UInt8.ofNat (size * 8 / 256 ^ (7 - 5) % 256)) rfl ?c1 ?c2 ?_)
      case c1=>rw [hby]; simp <;> omega
      case c2=>have:=bQ (S.zeros l.length) (size * 8) 5 (by omega); omega
      intro v' w' G';rw [STEP.out] at G';obtain ⟨base', c', rfl⟩:=G'.shape;rw [LEN.out] at G';rw [LEN.out];go_wp2_with fail
      go_roundg (8 - (5 + 1))
      case measure=>omega
      case rel=>exact ⟨5 + 1,base', c', by omega,rfl,rfl,rfl,Hd G'⟩
     ·have hby:vbS (UInt8.ofNat (size * 8 / 256 ^ (7 - 6) % 256))=.int .u8 ((size:Int) * 8 / 256 % 256):=by
       rw [gV _ (by omega)]; congr 1
      have STEP:=Hd (dD (S.zeros l.length) (size * 8) 6 (by omega));have LEN:=Hd (bQ (S.zeros l.length) (size * 8) 7 (by omega))
      go_wp2_with (at_builtin; refine cB _ rfl _ _ rfl hc rfl (G.out.alloc hc _) ⟨wr.heap.size,0,none⟩ 1 (UInt8.ofNat (size * 8 / 256 ^ (7 - 6) % 256)) rfl ?c1 ?c2 ?_)
      case c1=>rw [hby]; simp <;> omega
      case c2=>have:=bQ (S.zeros l.length) (size * 8) 6 (by omega); omega
      intro v' w' G';rw [STEP.out] at G';obtain ⟨base', c', rfl⟩:=G'.shape;rw [LEN.out] at G';rw [LEN.out];go_wp2_with fail
      go_roundg (8 - (6 + 1))
      case measure=>omega
      case rel=>exact ⟨6 + 1,base', c', by omega,rfl,rfl,rfl,Hd G'⟩
     ·have hby:vbS (UInt8.ofNat (size * 8 % 256))=.int .u8 ((size:Int) * 8 % 256):=by
       rw [gV _ (by omega)]; congr 1
      have STEP:=Hd (by have:=dD (S.zeros l.length) (size * 8) 7 (by omega); simpa using this:tkS (S.zeros l.length) (size * 8) 7 ++ [UInt8.ofNat (size * 8 % 256)]=tkS (S.zeros l.length) (size * 8) 8);have LEN:=Hd (bQ (S.zeros l.length) (size * 8) 8 (by omega))
      go_wp2_with (at_builtin; refine cB _ rfl _ _ rfl hc rfl (G.out.alloc hc _) ⟨wr.heap.size,0,none⟩ 1 (UInt8.ofNat (size * 8 % 256)) rfl ?c1 ?c2 ?_)
      case c1=>rw [hby]; simp <;> omega
      case c2=>have:=bQ (S.zeros l.length) (size * 8) 7 (by omega); omega
      intro v' w' G';rw [STEP.out] at G';obtain ⟨base', c', rfl⟩:=G'.shape;rw [LEN.out] at G';rw [LEN.out];go_wp2_with fail
      go_roundg (8 - (7 + 1))
      case measure=>omega
      case rel=>exact ⟨7 + 1,base', c', by omega,rfl,rfl,rfl,Hd G'⟩
    ·obtain rfl:j=8:=by omega
     have hcv2:=G.out.conv hc hmax (by rw [bQ _ _ _ (by omega)]; omega);rw [YX] at hcv2;go_wp2_with fail;go_ret;exact ⟨rfl,bw.trans ((G.out.below (Nat.le_of_lt hlt)).mono (Nat.le_refl _))⟩
  ·have hcond:¬ (((l.length:Int) + ((m:Int) + 1)) % 64=56):=by
    intro h;exact hmz ((HZ.out m hm).1 (by omega))
   go_wp2_with (at_builtin; refine cB _ rfl _ _ rfl hc rfl (G.out.alloc hc _) ⟨wr.heap.size,0,none⟩ 1 0 rfl ?c1 ?c2 ?_)
   case c1=>simp [vbS]
   case c2=>simp; omega
   intro v' w' G';obtain ⟨base', c', rfl⟩:=G'.shape;go_wp2_with fail
   go_roundg (S.zeros l.length - (m + 1))
   case measure=>omega
   case rel =>
    refine ⟨m + 1,base', c', by omega,rfl,by simp,Hd ?_⟩;rw [← List.replicate_succ'] at G'
    simpa using G'
end Go.Proofs.YthcejfnngkmojaaGreatDoor
