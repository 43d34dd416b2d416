/-
 RefSpread.
-/
import Derived.Test.YthcejfnngkmojaaGreatDoorPzRefSha1
import Derived.Test.YthcejfnngkmojaaGreatDoorPzHexMath
import Derived.Outline
namespace Go.Proofs.YthcejfnngkmojaaGreatDoor
open Go.RowKit
set_option maxRecDepth 20000
set_option maxHeartbeats 12800000
set_option linter.unusedVariables false
set_option linter.unusedSimpArgs false
def vw (x:Nat):Value:=.int .u32 (x:Int)
theorem BZ:(Tryz.prog.info? 43).map (fun i=>(i.zero,i.size,i.bytes))=some (some (.int .u32 0),1,4):=by kernel_rfl
theorem BC (w:World) (x:Value) (T:TypeId):∀ j u,[x][j]?=some u→(w.alloc (.cells #[x] T)).cell? ((⟨w.heap.size,0,none⟩:Addr).add j)=some u:=by
 intro j u hj;rw [bU,World.cell?_alloc_new]
 match j,hj with
 | 0,hj=>simpa using hj
theorem ME (a b c d:Nat) (ha:a < 256) (hb:b < 256) (hc:c < 256) (hd:d < 256):∃ p q r:Nat,
  bits .or .u32 ((a:Int) * 16777216) ((b:Int) * 65536)=(p:Int)∧bits .or .u32 (p:Int) ((c:Int) * 256)=(q:Int)∧bits .or .u32 (q:Int) (d:Int)=(r:Int)∧r=((a * 256 + b) * 256 + c) * 256 + d:=by
 have e1:(a:Int) * 16777216=((a * 16777216:Nat):Int):=by omega
 have e2:(b:Int) * 65536=((b * 65536:Nat):Int):=by omega
 have e3:(c:Int) * 256=((c * 256:Nat):Int):=by omega
 refine ⟨a * 16777216 + b * 65536,a * 16777216 + b * 65536 + c * 256,a * 16777216 + b * 65536 + c * 256 + d,?_,?_,?_,by omega⟩
 ·rw [e1,e2,aH _ _ (by omega) (by omega),nat_join 24 (a * 16777216) (b * 65536) (by simp) (by omega)]
 ·rw [e3,aH _ _ (by omega) (by omega),nat_join 16 (a * 16777216 + b * 65536) (c * 256) (by omega) (by omega)]
 ·rw [aH _ _ (by omega) (by omega),nat_join 8 (a * 16777216 + b * 65536 + c * 256) d (by omega) (by omega)]
theorem YR (b:ByteArray) (hb:b.size=64) (i:Nat) (hi:i < 16) (h0:4 * i < b.size) (h1:4 * i + 1 < b.size) (h2:4 * i + 2 < b.size) (h3:4 * i + 3 < b.size) :
  S.word b.data.toList i=((b[4 * i].toNat * 256 + b[4 * i + 1].toNat) * 256 + b[4 * i + 2].toNat) * 256 + b[4 * i + 3].toNat:=by
 have hl:b.data.toList.length=64:=by simpa using hb
 have e:(b.data.toList.drop (4 * i)).take 4=[b[4 * i],b[4 * i + 1],b[4 * i + 2],b[4 * i + 3]]:=by
  rw [List.drop_eq_getElem_cons (by omega),List.take_succ_cons,List.drop_eq_getElem_cons (by omega),List.take_succ_cons,List.drop_eq_getElem_cons (by omega),List.take_succ_cons,List.drop_eq_getElem_cons (by omega),List.take_succ_cons,List.take_zero];simp [ByteArray.getElem_eq_getElem_data]
 unfold S.word;rw [e];simp [M.val]
def SPr (w:World) (L:List Nat) (e:Ending) (w' : World):Prop:=∃ g cap,e=.returned (.slice (some ⟨g,0,none⟩) 64 cap)∧w.heap.size≤g∧g < w'.heap.size∧(∀ j (h:j < L.length),w'.cell? ⟨g,j,none⟩=some (vw L[j]))∧Below w.heap.size w w'
theorem GG {w w' : World} {base:Nat} {e:TypeId} {v:Value} {n:Nat} {xs:List Value} (h:w.ownsRow base e 1 v n xs) (hb:Below w.heap.size w w'):w'.ownsRow base e 1 v n xs:=by
 refine ⟨h.1,?_⟩
 rcases h.2 with h | ⟨g,cap,cur,hv,hbg,hh,r⟩
 ·exact .inl h
 ·exact .inr ⟨g,cap,cur,hv,hbg,(hb.block g (Array.getElem?_eq_some_iff.1 hh).1).trans hh,r⟩
theorem pM {w:World} {base:Nat} {v:Value} {n:Nat} {ws:List Nat} (h:w.ownsRow base 43 1 v n (ws.map vw)) (hn:0 < n) (hl:ws.length=n) :
  ∃ g cap,v=.slice (some ⟨g,0,none⟩) n cap∧∀ j (hj:j < ws.length),w.cell? ⟨g,j,none⟩=some (.int .u32 ((ws[j]:Nat):Int)):=by
 rcases vE h with ⟨rfl,hx⟩ | ⟨g,cap,hv,_,hc⟩
 ·have:ws=[]:=by simpa using hx
  subst this; simp at hl; omega
 ·refine ⟨g,cap,by rw [hv,List.length_map,hl],fun j hj=>?_⟩
  have:=hc j _ (by rw [List.getElem?_map,List.getElem?_eq_getElem hj]; rfl);rwa [bU,Nat.zero_add] at this
theorem sJ (b:ByteArray) (hb:b.size=64) (w:World) (L:List Nat) (HL:Hid (S.wds b.data.toList 64=L)) :
  Calls Tryz.prog 159 #[.string b] w fun e w' => SPr w L e w' := by
 obtain ⟨i0,hi,hz0,hz1,hz2⟩:=info_parts BZ;go_enter Tryz.func159,Tryz.ntmps159;go_wp2_with fail;have bz:Hid (b.size=64):=Hd hb
 go_loopw [3,4] (fun v i wr=>∃ n:Nat,n≤16∧i=.int .i64 (n:Int)∧Hid (wr.ownsRow w.heap.size 43 1 v n ((S.wds b.data.toList n).map vw))∧Hid (Below w.heap.size w wr)) (fun _ i _=>17 - (intOf i).toNat)
 case atStart=>exact ⟨0,by omega,rfl,Hd (World.ownsRow_nil _ _ _ _),Hd Br⟩
 case round =>
  obtain ⟨n,hn,rfl,HO,HB⟩:=hrel
  by_cases hlt:n < 16
  ·have hli:(n:Int) < 16:=by omega
   have q0:4 * n < b.size:=by omega
   have q1:4 * n + 1 < b.size:=by omega
   have q2:4 * n + 2 < b.size:=by omega
   have q3:4 * n + 3 < b.size:=by omega
   have hw:=YR b hb n hlt q0 q1 q2 q3;have ST:Hid (S.wds b.data.toList (n + 1)=S.wds b.data.toList n ++ [S.word b.data.toList n]):=Hd (by show S.wds _ n ++ [if n < 16 then _ else _]=_; rw [if_pos hlt]);obtain ⟨x0,x1,x2,x3,e0,e1,e2,e3⟩:∃ x0 x1 x2 x3,b[4 * n].toNat=x0∧b[4 * n + 1].toNat=x1∧b[4 * n + 2].toNat=x2∧b[4 * n + 3].toNat=x3:=⟨_,_,_,_,rfl,rfl,rfl,rfl⟩
   have l0:x0 < 256:=by rw [← e0]; exact UInt8.toNat_lt _
   have l1:x1 < 256:=by rw [← e1]; exact UInt8.toNat_lt _
   have l2:x2 < 256:=by rw [← e2]; exact UInt8.toNat_lt _
   have l3:x3 < 256:=by rw [← e3]; exact UInt8.toNat_lt _
   rw [e0,e1,e2,e3] at hw;obtain ⟨p,q,r,o1,o2,o3,hr⟩:=ME x0 x1 x2 x3 l0 l1 l2 l3;rw [hw,← hr] at ST;clear hw hr hb;have k0:IntKind.i64.wrap (4 * (n:Int))=4 * (n:Int):=by rw [IntKind.wrap_i64]; omega
   have k1:IntKind.i64.wrap (4 * (n:Int) + 1)=4 * (n:Int) + 1:=by rw [IntKind.wrap_i64]; omega
   have k2:IntKind.i64.wrap (4 * (n:Int) + 2)=4 * (n:Int) + 2:=by rw [IntKind.wrap_i64]; omega
   have k3:IntKind.i64.wrap (4 * (n:Int) + 3)=4 * (n:Int) + 3:=by rw [IntKind.wrap_i64]; omega
   have m0:(4 * (n:Int)).toNat=4 * n:=by omega
   have m1:(4 * (n:Int) + 1).toNat=4 * n + 1:=by omega
   have m2:(4 * (n:Int) + 2).toNat=4 * n + 2:=by omega
   have m3:(4 * (n:Int) + 3).toNat=4 * n + 3:=by omega
   have y0:0≤4 * (n:Int)∧4 * (n:Int) < (b.size:Int):=by omega
   have y1:0≤4 * (n:Int) + 1∧4 * (n:Int) + 1 < (b.size:Int):=by omega
   have y2:0≤4 * (n:Int) + 2∧4 * (n:Int) + 2 < (b.size:Int):=by omega
   have y3:0≤4 * (n:Int) + 3∧4 * (n:Int) + 3 < (b.size:Int):=by omega
   have v0:IntKind.u32.wrap (x0:Int)=(x0:Int):=by rw [IntKind.wrap_u32]; omega
   have v1:IntKind.u32.wrap (x1:Int)=(x1:Int):=by rw [IntKind.wrap_u32]; omega
   have v2:IntKind.u32.wrap (x2:Int)=(x2:Int):=by rw [IntKind.wrap_u32]; omega
   have v3:IntKind.u32.wrap (x3:Int)=(x3:Int):=by rw [IntKind.wrap_u32]; omega
   have u0:IntKind.u32.wrap ((x0:Int) * 16777216)=(x0:Int) * 16777216:=by rw [IntKind.wrap_u32]; omega
   have u1:IntKind.u32.wrap ((x1:Int) * 65536)=(x1:Int) * 65536:=by rw [IntKind.wrap_u32]; omega
   have u2:IntKind.u32.wrap ((x2:Int) * 256)=(x2:Int) * 256:=by rw [IntKind.wrap_u32]; omega
   go_wp2_with fail
   go_region_law (refine gW rfl (.tmp 14) (.tmp 44) 230 rfl w.heap.size 43 i0 (.int .u32 0) 1 4 Tryz.underlying230 hi hz0 hz1 hz2 rfl (by decide) _ n _ rfl (HO.out.alloc _) ⟨wr.heap.size,0,none⟩ 1 1 [vw r] rfl rfl (BC wr (vw r) _) (by intro u hu; simp at hu; subst hu; rfl) (by unfold maxLen; omega) (by omega) (by have:=HB.out.size; simp; omega) ?_; intro v' w' hown' hgrow _)
   all_goals
    have HB2:Hid (Below w.heap.size w w'):=Hd ((((HB.out.alloc HB.out.size _).drew)).grown hgrow (by have:=HB.out.size; simp; omega) (fun g hg=>(HO.out.lt g hg).1));have HO2:Hid (w'.ownsRow w.heap.size 43 1 v' (n + 1) ((S.wds b.data.toList (n + 1)).map vw)):=Hd (by rw [ST.out,List.map_append]; exact hown');clear hown' hgrow;go_wp2_with fail;go_roundw
    case rel=>exact ⟨n + 1,by omega,by go_num,HO2,HB2⟩
    case measure=>simp [intOf]; omega
  ·obtain rfl:n=16:=by omega
   have hli:¬ (((16:Nat):Int) < 16):=by omega
   clear hlt hn;go_wp2_with fail
   go_loopw [3,5] (fun v i wr=>∃ n:Nat,16≤n∧n≤64∧i=.int .i64 (n:Int)∧Hid (wr.ownsRow w.heap.size 43 1 v n ((S.wds b.data.toList n).map vw))∧Hid (Below w.heap.size w wr)) (fun _ i _=>65 - (intOf i).toNat)
   case atStart=>exact ⟨16,by omega,by omega,rfl,HO,HB⟩
   clear HO HB
   case round =>
    obtain ⟨n,hn16,hn,rfl,HO,HB⟩:=hrel
    by_cases hlt:n < 64
    ·have hli:(n:Int) < 64:=by omega
     have hll:=S.wds_length b.data.toList n;have hlls:=S.wds_lt b.data.toList n;have ST:Hid (S.wds b.data.toList (n + 1)=S.wds b.data.toList n ++ [S.wnext (S.wds b.data.toList n) n]):=Hd (by show S.wds _ n ++ [if n < 16 then _ else _]=_; rw [if_neg (by omega)]);generalize S.wds b.data.toList n=ws at *;obtain ⟨g,cap,rfl,hcells⟩:=pM HO.out (by omega) (by simpa using hll)
     have getx:∀ k,k < n→∃ x,x < 4294967296∧ws.getD k 0=x∧wr.cell? ⟨g,k,none⟩=some (.int .u32 (x:Int)):=fun k hk=>by
      have hk' : k < ws.length:=by omega
      refine ⟨ws[k],hlls _ (List.getElem_mem hk'),by rw [List.getD_eq_getElem?_getD,List.getElem?_eq_getElem hk']; rfl,hcells k hk'⟩
     obtain ⟨x,hx,ex,cx⟩:=getx (n - 15) (by omega);obtain ⟨y,hy,ey,cy⟩:=getx (n - 2) (by omega);obtain ⟨z,hz,ez,cz⟩:=getx (n - 7) (by omega);obtain ⟨u,hu,eu,cu⟩:=getx (n - 16) (by omega);obtain ⟨p0,xa,xb⟩:=KG x hx;obtain ⟨p1,ya,yb⟩:=KF y hy;have hwn:=yA ws n ex ey ez eu;rw [hwn] at ST;have A1:=(cO (S.s1 y) z).1;have A1w:=(cO (S.s1 y) z).2;have A2:=(cO (S.add (S.s1 y) z) (S.s0 x)).1;have A2w:=(cO (S.add (S.s1 y) z) (S.s0 x)).2;have A3:=(cO (S.add (S.add (S.s1 y) z) (S.s0 x)) u).1
     have A3w:=(cO (S.add (S.add (S.s1 y) z) (S.s0 x)) u).2;generalize S.add (S.add (S.add (S.s1 y) z) (S.s0 x)) u=r at *;generalize S.add (S.add (S.s1 y) z) (S.s0 x)=r2 at *;generalize S.add (S.s1 y) z=r1 at *;generalize S.s0 x=sx at *;generalize S.s1 y=sy at *;have j15:(n:Int) - 15=((n - 15:Nat):Int):=by omega
     have j2:(n:Int) - 2=((n - 2:Nat):Int):=by omega
     have j7:(n:Int) - 7=((n - 7:Nat):Int):=by omega
     have j16:(n:Int) - 16=((n - 16:Nat):Int):=by omega
     have i15:((n - 15:Nat):Int) < (n:Int):=by omega
     have i2:((n - 2:Nat):Int) < (n:Int):=by omega
     have i7:((n - 7:Nat):Int) < (n:Int):=by omega
     have i16:((n - 16:Nat):Int) < (n:Int):=by omega
     clear getx hcells hlls hwn ex ey ez eu hll;generalize n - 15=n15 at *;generalize n - 2=n2 at *;generalize n - 7=n7 at *;generalize n - 16=n16 at *;go_wp2_with fail;refine (iE _ _ _ hx (by omega)).mono ?_;rintro e wq ⟨rfl,bq⟩;have bb:=bq;clear bq;go_wp2_with fail;refine (iE _ _ _ hx (by omega)).mono ?_;rintro e wq ⟨rfl,bq⟩
     replace bb:=chain bb bq
     clear bq;go_wp2_with fail;refine (iE _ _ _ hy (by omega)).mono ?_;rintro e wq ⟨rfl,bq⟩
     replace bb:=chain bb bq
     clear bq;go_wp2_with fail;refine (iE _ _ _ hy (by omega)).mono ?_;rintro e wq ⟨rfl,bq⟩
     replace bb:=chain bb bq
     clear bq;have hgl:=(HO.out.lt g rfl).2;have HO' := Hd (GG HO.out bb)
     replace cz:=(bb.cell (p:=⟨g,n7,none⟩) hgl).trans cz
     replace cu:=(bb.cell (p:=⟨g,n16,none⟩) hgl).trans cu
     have HBq:=Hd (HB.out.trans (bb.mono HB.out.size));clear cx cy HO HB hgl;have kk7:IntKind.i64.wrap ((n7:Nat):Int)=(n7:Int):=by rw [IntKind.wrap_i64]; omega
     have kk16:IntKind.i64.wrap ((n16:Nat):Int)=(n16:Int):=by rw [IntKind.wrap_i64]; omega
     generalize hwq:wq=wz at *;clear hwq;go_wp2_with fail
     go_region_law (refine gW rfl (.tmp 76) (.tmp 92) 230 rfl w.heap.size 43 i0 (.int .u32 0) 1 4 Tryz.underlying230 hi hz0 hz1 hz2 rfl (by decide) _ n _ rfl (HO'.out.alloc _) ⟨wz.heap.size,0,none⟩ 1 1 [vw r] rfl rfl (BC wz (vw r) _) (by intro u hu; simp at hu; subst hu; rfl) (by unfold maxLen; omega) (by omega) (by have:=HBq.out.size; simp; omega) ?_; intro v' w' hown' hgrow _)
     all_goals
      have HB2:Hid (Below w.heap.size w w'):=Hd ((((HBq.out.alloc HBq.out.size _).drew)).grown hgrow (by have:=HBq.out.size; simp; omega) (fun g hg=>(HO'.out.lt g hg).1));have HO2:Hid (w'.ownsRow w.heap.size 43 1 v' (n + 1) ((S.wds b.data.toList (n + 1)).map vw)):=Hd (by rw [ST.out,List.map_append]; exact hown');clear hown' hgrow;go_wp2_with fail;go_roundw
      case rel=>exact ⟨n + 1,by omega,by omega,by go_num,HO2,HB2⟩
      case measure=>simp [intOf]; omega
    ·obtain rfl:n=64:=by omega
     have hli:¬ (((64:Nat):Int) < 64):=by omega
     have hO:=HO.out;rw [HL.out] at hO;have hlL:L.length=64:=by rw [← HL.out]; exact S.wds_length _ _
     obtain ⟨g,cap,rfl,hcells⟩:=pM hO (by omega) hlL;have hgl:=hO.lt g rfl;have RES:Hid (w.heap.size≤g∧g < wr.heap.size∧(∀ j (h:j < L.length),wr.cell? ⟨g,j,none⟩=some (vw L[j]))):=Hd ⟨hgl.1,hgl.2,hcells⟩;clear hO hcells hgl HO hlL;go_wp2_with fail;go_ret;unfold SPr;exact ⟨g,cap,rfl,RES.out.1,RES.out.2.1,RES.out.2.2,HB.out⟩
theorem uB (b:ByteArray) (w:World) (hb:b.size=64) :
  Calls Tryz.prog 159 #[.string b] w fun e w' => SPr w (S.wds b.data.toList 64) e w' :=
 sJ b hb w _ (Hd rfl)
end Go.Proofs.YthcejfnngkmojaaGreatDoor
