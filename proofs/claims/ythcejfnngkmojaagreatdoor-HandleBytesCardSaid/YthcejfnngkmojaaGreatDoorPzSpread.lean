/-
 Spread.
-/
import Derived.Test.YthcejfnngkmojaaGreatDoorPzArr
import Derived.Test.YthcejfnngkmojaaGreatDoorPzSha1
import Derived.Lib.OthersKept
import Derived.Deep.DeepCutAuto
import Derived.Laws.CopyOwn
namespace Go.Proofs.YthcejfnngkmojaaGreatDoor
open Go.RowKit
set_option maxRecDepth 20000
set_option maxHeartbeats 12800000
set_option linter.unusedVariables false
set_option linter.unusedSimpArgs false
def bV (l:List Nat):List Nat:=l ++ List.replicate (64 - l.length) 0
theorem lQ (l:List Nat) (h:l.length≤64):(bV l).length=64:=by unfold bV; simp; omega
theorem CQ (l:List Nat) (j:Nat) (h:j < l.length) (h2:j < (bV l).length):(bV l)[j]=l.getD j 0:=by
 have:(bV l)[j]?=some (l.getD j 0):=by
  unfold bV;rw [List.getElem?_append_left h,List.getD_eq_getElem?_getD,List.getElem?_eq_getElem h]; rfl
 rw [List.getElem?_eq_getElem h2] at this;exact Option.some.inj this
theorem QQ (l:List Nat) (h:l.length < 64):bV (l ++ [0])=bV l:=by
 unfold bV;rw [List.length_append,List.length_singleton,show 64 - l.length=(64 - (l.length + 1)) + 1 by omega,List.replicate_succ];simp
theorem QT (l:List Nat) (h:l.length=64):bV l=l:=by unfold bV; rw [h]; simp
theorem Buf.other {w:World} {g:Nat} {l:List UInt8} (h:Buf w g l) (a:Addr) (v:Value) (hne:g≠a.block):Buf (w.setCell a v) g l:=by
 refine ⟨by simpa [World.setCell] using h.1,fun j hj=>⟨?_,?_⟩⟩
 ·have:=heap_setCell_other w a g v hne
  have hc:=h.cell j hj;unfold World.cell? at hc ⊢;simp only [this];exact hc
 ·rw [World.frozen?_setCell]; exact h.free j hj
theorem aCM (v c:Nat) (hv:v < 16777216) (hc:c < 256):bits .or .u32 ((v:Int) * 256) (c:Int)=((v * 256 + c:Nat):Int):=by
 have e:(v:Int) * 256=((v * 256:Nat):Int):=by omega
 rw [e,aH (v * 256) c (by omega) (by omega),nat_join 8 (v * 256) c (by simp) (by simpa using hc)]
theorem SM (l:List UInt8) (t:Nat) (h:t≤3):M.val (l.take t) < 16777216:=by
 have h1:=M.val_lt (l.take t);have h2:256 ^ (l.take t).length≤256 ^ 3:=Nat.pow_le_pow_right (by decide) (by simp; omega);have h3:(256:Nat) ^ 3=16777216:=by decide
 omega
theorem cO (a b:Nat):((a:Int) + (b:Int)) % 4294967296=(S.add a b:Int)∧IntKind.u32.wrap ((a:Int) + (b:Int))=(S.add a b:Int):=by
 have:((a:Int) + (b:Int)) % 4294967296=(S.add a b:Int):=by unfold S.add; omega
 exact ⟨this,by rw [IntKind.wrap_u32]; exact this⟩
theorem RX (a b c:Nat):S.x3 a b c=a ^^^ b ^^^ c:=rfl
theorem aD8 (x:Nat):S.s0 x=S.x3 (S.rot x 7) (S.rot x 18) (x / 8):=rfl
theorem aD7 (x:Nat):S.s1 x=S.x3 (S.rot x 17) (S.rot x 19) (x / 1024):=rfl
theorem KG (x:Nat) (hx:x < 4294967296):∃ p:Nat,bits .xor .u32 (S.rot x 7:Int) (S.rot x 18:Int)=(p:Int)∧bits .xor .u32 (p:Int) ((x:Int) / 8)=(S.s0 x:Int):=by
 refine ⟨S.rot x 7 ^^^ S.rot x 18,dI _ _ (S.rot_lt _ _ hx) (S.rot_lt _ _ hx),?_⟩;have h:=dI (S.rot x 7 ^^^ S.rot x 18) (x / 8) (S.xor_lt (S.rot_lt _ _ hx) (S.rot_lt _ _ hx)) (Nat.lt_of_le_of_lt (Nat.div_le_self _ _) hx);simp only [Int.natCast_ediv,Int.cast_ofNat_Int] at h;rw [aD8,RX];exact h
theorem KF (x:Nat) (hx:x < 4294967296):∃ p:Nat,bits .xor .u32 (S.rot x 17:Int) (S.rot x 19:Int)=(p:Int)∧bits .xor .u32 (p:Int) ((x:Int) / 1024)=(S.s1 x:Int):=by
 refine ⟨S.rot x 17 ^^^ S.rot x 19,dI _ _ (S.rot_lt _ _ hx) (S.rot_lt _ _ hx),?_⟩;have h:=dI (S.rot x 17 ^^^ S.rot x 19) (x / 1024) (S.xor_lt (S.rot_lt _ _ hx) (S.rot_lt _ _ hx)) (Nat.lt_of_le_of_lt (Nat.div_le_self _ _) hx);simp only [Int.natCast_ediv,Int.cast_ofNat_Int] at h;rw [aD7,RX];exact h
theorem yA (ws:List Nat) (n:Nat) {x y z u:Nat} (ex:ws.getD (n - 15) 0=x) (ey:ws.getD (n - 2) 0=y) (ez:ws.getD (n - 7) 0=z) (eu:ws.getD (n - 16) 0=u):S.wnext ws n=S.add (S.add (S.add (S.s1 y) z) (S.s0 x)) u:=by
 subst ex ey ez eu
 rfl
theorem QS (l:List Nat) (v:Nat) (h:l.length < 64):(bV l).set l.length v=bV (l ++ [v]):=by
 unfold bV;rw [List.set_append_right _ _ (Nat.le_refl _),Nat.sub_self,List.length_append,List.length_singleton,show 64 - l.length=(64 - (l.length + 1)) + 1 by omega,List.replicate_succ,List.set_cons_zero];simp
theorem QR (l:List Nat) (u v:Nat) (h:l.length < 64):(bV (l ++ [u])).set l.length v=bV (l ++ [v]):=by
 unfold bV;rw [List.append_assoc,List.append_assoc,List.set_append_right _ _ (Nat.le_refl _),Nat.sub_self,List.length_append,List.length_append]
 rfl
theorem Buf.openedS (w:World) (b:ByteArray):∃ cap w2 g,(convert 9 31 (.string b)).run Tryz.prog w=.ok (.slice (some ⟨g,0,none⟩) b.size cap) w2∧Buf w2 g b.data.toList∧Below w.heap.size w w2∧w.heap.size≤g :=
 ⟨_,_,_,run_bytes_of_string (P:=Tryz.prog) w 9 31 5 b Tryz.underlying9 Tryz.underlying31 Tryz.underlying5,Buf.made w b _,(Br.drew).alloc (Nat.le_refl _) _,Nat.le_refl _⟩
def W64 (b:List UInt8):List Nat:=S.wds b 64
def IsW (b:ByteArray) (L:List Nat):Prop:=W64 b.data.toList=L
theorem IsW.out {b:ByteArray} {L:List Nat} (h:IsW b L):W64 b.data.toList=L:=h
theorem zA (b:ByteArray) (L:List Nat) (w:World) (hb:b.size=64) (HL:IsW b L) :
  Calls Tryz.prog 179 #[.string b] w fun e w' => e=.returned (.agg (U L))∧Below w.heap.size w w' := by
 go_enter Tryz.func179,Tryz.ntmps179;go_wp2_with fail
 go_loopw [12] (fun i wr=>∃ n:Nat,n≤16∧i=.int .i64 (n:Int)∧Hid (Arr 224 wr (w.heap.size + 1) (bV (S.wds b.data.toList n)))∧Hid (Arr 224 wr w.heap.size (bV []))∧Below w.heap.size w wr) (fun i _=>17 - (intOf i).toNat)
 case atStart =>
  refine ⟨0,by omega,rfl,Hd ?_,Hd ?_,(Br.alloc (Nat.le_refl _) _).alloc (by simp) _⟩
  ·have:=Arr.new (T:=224) (w.alloc (.cells (U (bV [])) 224)) (bV [])
   rw [show (w.alloc (.cells (U (bV [])) 224)).heap.size=w.heap.size + 1 by simp] at this;exact this
  ·exact (Arr.new (T:=224) w (bV [])).alloc _
 case round =>
  obtain ⟨n,hn,rfl,hA,hR,hbw⟩:=hrel
  by_cases hlt:n < 16
  ·have hli:(n:Int) < 16:=by omega
   have hi1:4 * (n:Int) + 4≤(b.size:Int):=by omega
   obtain ⟨cap,w2,g,hbs,hB,hW,hg⟩:=Buf.openedS wr (b.extract (4 * n) (4 * n + 4));have hsz:(b.extract (4 * n) (4 * n + 4)).size=4:=by rw [ByteArray.size_extract]; omega
   have hbl:(b.extract (4 * n) (4 * n + 4)).data.toList=(b.data.toList.drop (4 * n)).take 4:=by rw [aI,show 4 * n + 4 - 4 * n=4 by omega]
   rw [hsz] at hbs;rw [hbl] at hB;have hwl:=S.wds_length b.data.toList n;have hlen4:((b.data.toList.drop (4 * n)).take 4).length=4:=by rw [← hbl,cQ,hsz]
   have A2:=Hd (hA.out.below hW);have R2:=Hd (hR.out.below hW);have HB:=Hd hB;have hg2:w.heap.size + 1 < g:=Nat.lt_of_lt_of_le hA.out.lt hg;have hbw2:Below w.heap.size w w2:=hbw.trans (hW.mono hbw.size);have WORD:Hid (S.wds b.data.toList (n + 1)=S.wds b.data.toList n ++ [M.val (((b.data.toList.drop (4 * n)).take 4).take 4)]):=Hd (by rw [S.wds,if_pos hlt,S.word,List.take_take,Nat.min_self]);generalize (b.data.toList.drop (4 * n)).take 4=l4 at *;generalize S.wds b.data.toList n=ws at *;have HWL:=Hd hwl;have HL4:=Hd hlen4;clear hwl hlen4 hB hbl hsz hA hR hbw
   go_wp2_with fail
   go_loopw [6,24] (fun _ t wx=>∃ j:Nat,j≤4∧t=.int .i64 (j:Int)∧Hid (Arr 224 wx (w.heap.size + 1) (bV (ws ++ [M.val (l4.take j)])))∧Hid (Arr 224 wx w.heap.size (bV []))∧Hid (Buf wx g l4)∧Below w.heap.size w wx) (fun _ t _=>5 - (intOf t).toNat)
   case atStart=>exact ⟨0,by omega,rfl,Hd (by rw [List.take_zero,M.val_nil,QQ _ (by rw [HWL.out]; omega)]; exact A2.out),R2,HB,hbw2⟩
   case round =>
    obtain ⟨j,hj,rfl,hA,hR,hBf,hbx⟩:=hrel
    by_cases hjl:j < 4
    ·have hji:(j:Int) < 4:=by omega
     have hjl4:j < l4.length:=by rw [HL4.out]; exact hjl
     have hcb:=hBf.out.cell j hjl4;have hfl:n < (bV (ws ++ [M.val (l4.take j)])).length:=by rw [lQ _ (by rw [List.length_append,HWL.out]; simp; omega)]; omega
     have hca:=hA.out.cell n hfl;have hfr:=hA.out.free n
     have hget:(bV (ws ++ [M.val (l4.take j)]))[n]=M.val (l4.take j):=by
      rw [CQ _ n (by rw [List.length_append,HWL.out]; simp) hfl,List.getD_eq_getElem?_getD,List.getElem?_append_right (by rw [HWL.out]; exact Nat.le_refl _),HWL.out,Nat.sub_self]
      rfl
     rw [hget] at hca;have hc256:=UInt8.toNat_lt (l4[j]);have hv24:=SM l4 j (by omega);have hO:=aCM _ _ hv24 hc256;have hset:=hA.out.set n (M.val (l4.take j) * 256 + (l4[j]).toNat);have hval:M.val (l4.take (j + 1))=M.val (l4.take j) * 256 + (l4[j]).toNat:=by rw [List.take_succ_eq_append_getElem hjl4,M.val_snoc]
     have hfs:=QR ws (M.val (l4.take j)) (M.val (l4.take j) * 256 + (l4[j]).toNat) (by rw [HWL.out]; omega);rw [HWL.out] at hfs;rw [hfs,← hval] at hset;rw [← hval] at hO;have NXA:=Hd hset;have NXR:=Hd (hR.out.other ⟨w.heap.size + 1,n,none⟩ (.int .u32 ((M.val (l4.take (j + 1)):Nat):Int)) (by simp));have NXB:=Hd (hBf.out.other ⟨w.heap.size + 1,n,none⟩ (.int .u32 ((M.val (l4.take (j + 1)):Nat):Int)) (by show g≠w.heap.size + 1; omega));have hv32:M.val (l4.take (j + 1)) < 4294967296:=by rw [hval]; omega
     clear hset hval hfs hget hfl hA hR hBf;generalize hV:M.val (l4.take (j + 1))=v2 at *;have V2:=Hd hV;clear hV;generalize M.val (l4.take j)=v1 at *;generalize (l4[j]).toNat=c at *;clear hjl4;go_wp2_with fail;go_roundw
     case rel=>exact ⟨j + 1,by omega,by go_num,by rw [V2.out]; exact NXA,NXR,NXB,hbx.setCell (by simp) _⟩
     case measure=>simp [intOf]; omega
    ·obtain rfl:j=4:=by omega
     have AN:=Hd (show Arr 224 _ (w.heap.size + 1) (bV (S.wds b.data.toList (n + 1))) by rw [WORD.out]; exact hA.out);have hji:¬ (((4:Nat):Int) < 4):=by omega
     go_wp2_with fail;go_roundw
     case rel=>exact ⟨n + 1,by omega,by go_num,AN,hR,hbx⟩
     case measure=>simp [intOf]; omega
  ·obtain rfl:n=16:=by omega
   have hli:¬ (((16:Nat):Int) < 16):=by omega
   go_wp2_with fail
   go_loopw [7] (fun i wx=>∃ n:Nat,16≤n∧n≤64∧i=.int .i64 (n:Int)∧Hid (Arr 224 wx (w.heap.size + 1) (bV (S.wds b.data.toList n)))∧Hid (Arr 224 wx w.heap.size (bV []))∧Below w.heap.size w wx) (fun i _=>65 - (intOf i).toNat)
   case atStart=>exact ⟨16,by omega,by omega,rfl,hA,hR,hbw⟩
   case round =>
    obtain ⟨n,hn16,hn64,rfl,hA,hR,hbx⟩:=hrel;have hwl:=S.wds_length b.data.toList n;have hwlt:=S.wds_lt b.data.toList n
    by_cases hlt:n < 64
    ·have hli:(n:Int) < 64:=by omega
     have hi0:16≤(n:Int):=by omega
     have WORD:Hid (S.wds b.data.toList (n + 1)=S.wds b.data.toList n ++ [S.wnext (S.wds b.data.toList n) n]):=Hd (by rw [S.wds,if_neg (by omega)])
     have get:∀ k,k < n→∃ v,v < 4294967296∧(S.wds b.data.toList n).getD k 0=v∧wr.cell? ⟨w.heap.size + 1,k,none⟩=some (.int .u32 ((v:Nat):Int)):=fun k hk=>by
      have hkl:k < (bV (S.wds b.data.toList n)).length:=by rw [lQ _ (by omega)]; omega
      have hkw:k < (S.wds b.data.toList n).length:=by omega
      refine ⟨_,?_,rfl,?_⟩
      ·rw [List.getD_eq_getElem?_getD,List.getElem?_eq_getElem hkw]; exact hwlt _ (List.getElem_mem hkw)
      ·have:=hA.out.cell k hkl
       rwa [CQ _ k hkw hkl] at this
     obtain ⟨x,hx,ex,cx⟩:=get (n - 15) (by omega);obtain ⟨y,hy,ey,cy⟩:=get (n - 2) (by omega);obtain ⟨z,hz,ez,cz⟩:=get (n - 7) (by omega);obtain ⟨u,hu,eu,cu⟩:=get (n - 16) (by omega);have hnx:S.wnext (S.wds b.data.toList n) n=S.add (S.add (S.add (S.s1 y) z) (S.s0 x)) u:=yA _ _ ex ey ez eu;have hfn:=QS (S.wds b.data.toList n) (S.wnext (S.wds b.data.toList n) n) (by omega);rw [hwl,← WORD.out,hnx] at hfn;have hfr:=hA.out.free n;have hfl:n < (bV (S.wds b.data.toList n)).length:=by rw [lQ _ (by omega)]; omega
     have hcn:=hA.out.cell n hfl;generalize (Value.int .u32 (((bV (S.wds b.data.toList n))[n]:Nat):Int))=cv at hcn;obtain ⟨p1,f1,f2⟩:=KG x hx;obtain ⟨p2,f3,f4⟩:=KF y hy;have g1:=cO (S.s1 y) z;have g2:=cO (S.add (S.s1 y) z) (S.s0 x);have g3:=cO (S.add (S.add (S.s1 y) z) (S.s0 x)) u;have HN:=Hd hfn;clear hnx hfn hfl get hwl hwlt ex ey ez eu WORD;generalize S.add (S.add (S.add (S.s1 y) z) (S.s0 x)) u=q3 at *;generalize S.add (S.add (S.s1 y) z) (S.s0 x)=q2 at *;generalize S.add (S.s1 y) z=q1 at *;generalize S.s0 x=sx at *
     generalize S.s1 y=sy at *;obtain ⟨g11,g12⟩:=g1;obtain ⟨g21,g22⟩:=g2;obtain ⟨g31,g32⟩:=g3;go_wp2_with fail
     go_quiet (fail)
     go_wp2_with fail;refine (KI _ _ hx).mono ?_;rintro e w9 ⟨rfl,rfl⟩;go_wp2_with fail;refine (zS _ _ hx).mono ?_;rintro e w9 ⟨rfl,rfl⟩;go_wp2_with fail;refine (zT _ _ hy).mono ?_;rintro e w9 ⟨rfl,rfl⟩;go_wp2_with fail;refine (zR _ _ hy).mono ?_;rintro e w9 ⟨rfl,rfl⟩;obtain ⟨wq,hwq⟩:∃ wq,wr.drewN nq=wq:=⟨_,rfl⟩
     rw [hwq];have HA2:=Hd (show Arr 224 wq (w.heap.size + 1) _ by rw [← hwq]; exact hA.out.drewN nq);have HR2:=Hd (show Arr 224 wq w.heap.size _ by rw [← hwq]; exact hR.out.drewN nq);have hbx2:Below w.heap.size w wq:=by rw [← hwq]; exact aD hbx nq
     have cz2:wq.cell? ⟨w.heap.size + 1,n - 7,none⟩=some (.int .u32 ((z:Nat):Int)):=by rw [← hwq]; exact cz
     have cu2:wq.cell? ⟨w.heap.size + 1,n - 16,none⟩=some (.int .u32 ((u:Nat):Int)):=by rw [← hwq]; exact cu
     have cn2:wq.cell? ⟨w.heap.size + 1,n,none⟩=some cv:=by rw [← hwq]; exact hcn
     have fr2:wq.frozen? ⟨w.heap.size + 1,n,none⟩=false:=by rw [← hwq]; exact hfr
     clear hwq hA hR hbx cz cu cx cy hcn hfr;go_wp2_with fail
     go_region
     all_goals
      go_wp2_with fail;go_roundw
      case rel=>exact ⟨n + 1,by omega,by omega,by go_num,Hd (by rw [← HN.out]; exact (HA2.out.set n q3).drew),Hd ((HR2.out.other _ _ (by simp)).drew),(hbx2.setCell (by simp) _).drew⟩
      case measure=>simp [intOf]; omega
    ·obtain rfl:n=64:=by omega
     have hli:¬ (((64:Nat):Int) < 64):=by omega
     have hA2:=hA.out;rw [QT _ hwl] at hA2;change Arr _ _ _ (W64 b.data.toList) at hA2;rw [HL.out] at hA2;have hlen:L.length=64:=by rw [← HL.out]; exact S.wds_length _ _
     have hinfo:(Tryz.prog.info? 224).map (·.size)=some (U L).size:=by rw [bP,hlen]; kernel_rfl
     have hold:(U (bV [])).size=(U L).size:=by rw [bP,bP,hlen]; rfl
     have hone:=mT L;have hR2:=hR.out;have hrow:=hR2.row L;have hdone:Below w.heap.size w (wr.setRow w.heap.size (U L)):=below_setRow hbx (Nat.le_refl _) _;have A2:=Hd hA2;have R2:=Hd hR2;have IN:=Hd hinfo;have OL:=Hd hold;have ON:=Hd hone;have RW:=Hd hrow;clear hA2 hinfo hold hone hR2 hrow hA hR hwl hwlt hlen;go_upto_region 18 with fail
     go_step
     refine wpList_load_row rfl 224 (.tmp 3) rfl (w.heap.size + 1) rfl 224 (U L) (0,0) _ A2.out Tryz.underlying224 rfl IN.out ?_;refine wpList_store_row rfl 224 (.tmp 2) (.tmp 82) rfl w.heap.size (U L) rfl rfl 224 (U (bV [])) R2.out IN.out OL.out ON.out ?_;go_wp2_with fail;exact bodyPost_ret (v:=.agg (U L)) (results_cell_row Tryz.results179 _ _ w.heap.size 224 (U L) (0,0) _ rfl RW.out Tryz.underlying224 rfl IN.out) rfl ⟨rfl,hdone⟩
theorem EK (b:ByteArray) (w:World) (hb:b.size=64) :
  Calls Tryz.prog 179 #[.string b] w fun e w' => e=.returned (.agg (U (W64 b.data.toList)))∧Below w.heap.size w w' :=
 zA b _ w hb (show IsW b _ from rfl)
end Go.Proofs.YthcejfnngkmojaaGreatDoor
