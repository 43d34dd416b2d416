/-
 Spread, Turn, Turn2, Tape, Tail, Sum, SumFacts, Mac0, Mac, MSame.
-/
import Derived.Test.YthcejfnngkmojaaGreatDoorO19
import Derived.Lib.OthersKept
import Derived.Deep.DeepCutAuto
import Derived.Laws.CopyOwn
import Derived.Test.YthcejfnngkmojaaGreatDoorO01
import Derived.Room.AppendOnto
import Derived.Test.YthcejfnngkmojaaGreatDoorO05
import Derived.Deep.LoopGhost
import Derived.StillTailTactics
import Derived.Lib.BufferWrite
import Derived.Outline
namespace Go.Proofs.YthcejfnngkmojaaGreatDoor
open Go.RowKit
set_option maxRecDepth 20000
set_option maxHeartbeats 12800000
set_option linter.unusedVariables false
set_option linter.unusedSimpArgs false
def bZ (l:List Nat):List Nat:=l ++ List.replicate (64 - l.length) 0
theorem lR (l:List Nat) (h:l.length ≤ 64):(bZ l).length = 64:=by unfold bZ; simp; omega
theorem CL (l:List Nat) (j:Nat) (h:j < l.length) (h2:j < (bZ l).length):(bZ l)[j] = l.getD j 0:=by
 have:(bZ l)[j]? = some (l.getD j 0):=by
  unfold bZ;rw [List.getElem?_append_left h,List.getD_eq_getElem?_getD,List.getElem?_eq_getElem h]; rfl
 rw [List.getElem?_eq_getElem h2] at this;exact Option.some.inj this
theorem PZ (l:List Nat) (h:l.length < 64):bZ (l ++ [0]) = bZ l:=by
 unfold bZ;rw [List.length_append,List.length_singleton,show 64 - l.length = (64 - (l.length + 1)) + 1 by omega,List.replicate_succ];simp
theorem QC (l:List Nat) (h:l.length = 64):bZ l = l:=by unfold bZ; rw [h]; simp
theorem Buf.other {w:World} {g:Nat} {l:List UInt8} (h:Buf w g l) (a:Addr) (v:Value) (hne:g ≠ a.block):Buf (w.setCell a v) g l:=by
 refine ⟨by simpa [World.setCell] using h.1,fun j hj=>⟨?_,?_⟩⟩
 ·have:=heap_setCell_other w a g v hne
  have hc:=h.cell j hj;unfold World.cell? at hc ⊢;simp only [this];exact hc
 ·rw [World.frozen?_setCell]; exact h.free j hj
theorem aCE (v c:Nat) (hv:v < 16777216) (hc:c < 256):bits .or .u32 ((v:Int) * 256) (c:Int) = ((v * 256 + c:Nat):Int):=by
 have e:(v:Int) * 256 = ((v * 256:Nat):Int):=by omega
 rw [e,cJ (v * 256) c (by omega) (by omega),nat_join 8 (v * 256) c (by simp) (by simpa using hc)]
theorem RL (l:List UInt8) (t:Nat) (h:t ≤ 3):M.val (l.take t) < 16777216:=by
 have h1:=M.val_lt (l.take t);have h2:256 ^ (l.take t).length ≤ 256 ^ 3:=Nat.pow_le_pow_right (by decide) (by simp; omega);have h3:(256:Nat) ^ 3 = 16777216:=by decide
 omega
theorem kA (a b:Nat):((a:Int) + (b:Int)) % 4294967296 = (S.add a b:Int) ∧ IntKind.u32.wrap ((a:Int) + (b:Int)) = (S.add a b:Int):=by
 have:((a:Int) + (b:Int)) % 4294967296 = (S.add a b:Int):=by unfold S.add; omega
 exact ⟨this,by rw [IntKind.wrap_u32]; exact this⟩
theorem QV (a b c:Nat):S.x3 a b c = a ^^^ b ^^^ c:=rfl
theorem aD2 (x:Nat):S.s0 x = S.x3 (S.rot x 7) (S.rot x 18) (x / 8):=rfl
theorem aD1 (x:Nat):S.s1 x = S.x3 (S.rot x 17) (S.rot x 19) (x / 1024):=rfl
theorem ZG (x:Nat) (hx:x < 4294967296):∃ p:Nat,bits .xor .u32 (S.rot x 7:Int) (S.rot x 18:Int) = (p:Int) ∧ bits .xor .u32 (p:Int) ((x:Int) / 8) = (S.s0 x:Int):=by
 refine ⟨S.rot x 7 ^^^ S.rot x 18,dI _ _ (S.rot_lt _ _ hx) (S.rot_lt _ _ hx),?_⟩;have h:=dI (S.rot x 7 ^^^ S.rot x 18) (x / 8) (S.xor_lt (S.rot_lt _ _ hx) (S.rot_lt _ _ hx)) (Nat.lt_of_le_of_lt (Nat.div_le_self _ _) hx);simp only [Int.natCast_ediv,Int.cast_ofNat_Int] at h;rw [aD2,QV];exact h
theorem ZF (x:Nat) (hx:x < 4294967296):∃ p:Nat,bits .xor .u32 (S.rot x 17:Int) (S.rot x 19:Int) = (p:Int) ∧ bits .xor .u32 (p:Int) ((x:Int) / 1024) = (S.s1 x:Int):=by
 refine ⟨S.rot x 17 ^^^ S.rot x 19,dI _ _ (S.rot_lt _ _ hx) (S.rot_lt _ _ hx),?_⟩;have h:=dI (S.rot x 17 ^^^ S.rot x 19) (x / 1024) (S.xor_lt (S.rot_lt _ _ hx) (S.rot_lt _ _ hx)) (Nat.lt_of_le_of_lt (Nat.div_le_self _ _) hx);simp only [Int.natCast_ediv,Int.cast_ofNat_Int] at h;rw [aD1,QV];exact h
theorem QW (ws:List Nat) (n:Nat) {x y z u:Nat} (ex:ws.getD (n - 15) 0 = x) (ey:ws.getD (n - 2) 0 = y) (ez:ws.getD (n - 7) 0 = z) (eu:ws.getD (n - 16) 0 = u):S.wnext ws n = S.add (S.add (S.add (S.s1 y) z) (S.s0 x)) u:=by
 subst ex ey ez eu
 rfl
theorem QB (l:List Nat) (v:Nat) (h:l.length < 64):(bZ l).set l.length v = bZ (l ++ [v]):=by
 unfold bZ;rw [List.set_append_right _ _ (Nat.le_refl _),Nat.sub_self,List.length_append,List.length_singleton,show 64 - l.length = (64 - (l.length + 1)) + 1 by omega,List.replicate_succ,List.set_cons_zero];simp
theorem QA (l:List Nat) (u v:Nat) (h:l.length < 64):(bZ (l ++ [u])).set l.length v = bZ (l ++ [v]):=by
 unfold bZ;rw [List.append_assoc,List.append_assoc,List.set_append_right _ _ (Nat.le_refl _),Nat.sub_self,List.length_append,List.length_append]
 rfl
theorem Buf.openedS (w:World) (b:ByteArray):∃ cap w2 g,(convert 9 31 (.string b)).run Tryz.prog w = .ok (.slice (some ⟨g,0,none⟩) b.size cap) w2 ∧ Buf w2 g b.data.toList ∧ Below w.heap.size w w2 ∧ w.heap.size ≤ g :=
 ⟨_,_,_,run_bytes_of_string (P:=Tryz.prog) w 9 31 5 b Tryz.underlying9 Tryz.underlying31 Tryz.underlying5,Buf.made w b _,(Br.drew).alloc (Nat.le_refl _) _,Nat.le_refl _⟩
def W64 (b:List UInt8):List Nat:=S.wds b 64
def IsW (b:ByteArray) (L:List Nat):Prop:=W64 b.data.toList = L
theorem IsW.out {b:ByteArray} {L:List Nat} (h:IsW b L):W64 b.data.toList = L:=h
theorem zI (b:ByteArray) (L:List Nat) (w:World) (hb:b.size = 64) (HL:IsW b L) :
  Calls Tryz.prog 179 #[.string b] w fun e w' => e = .returned (.agg (U L)) ∧ Below w.heap.size w w' := by
 go_enter Tryz.func179,Tryz.ntmps179;go_wp2_with fail
 go_loopw [12] (fun i wr=>∃ n:Nat,n ≤ 16 ∧ i = .int .i64 (n:Int) ∧ Hid (Arr 224 wr (w.heap.size + 1) (bZ (S.wds b.data.toList n))) ∧ Hid (Arr 224 wr w.heap.size (bZ [])) ∧ Below w.heap.size w wr) (fun i _=>17 - (intOf i).toNat)
 case atStart =>
  refine ⟨0,by omega,rfl,Hd ?_,Hd ?_,(Br.alloc (Nat.le_refl _) _).alloc (by simp) _⟩
  ·have:=Arr.new (T:=224) (w.alloc (.cells (U (bZ [])) 224)) (bZ [])
   rw [show (w.alloc (.cells (U (bZ [])) 224)).heap.size = w.heap.size + 1 by simp] at this;exact this
  ·exact (Arr.new (T:=224) w (bZ [])).alloc _
 case round =>
  obtain ⟨n,hn,rfl,hA,hR,hbw⟩:=hrel
  by_cases hlt:n < 16
  ·have hli:(n:Int) < 16:=by omega
   have hi1:4 * (n:Int) + 4 ≤ (b.size:Int):=by omega
   obtain ⟨cap,w2,g,hbs,hB,hW,hg⟩:=Buf.openedS wr (b.extract (4 * n) (4 * n + 4));have hsz:(b.extract (4 * n) (4 * n + 4)).size = 4:=by rw [ByteArray.size_extract]; omega
   have hbl:(b.extract (4 * n) (4 * n + 4)).data.toList = (b.data.toList.drop (4 * n)).take 4:=by rw [aG,show 4 * n + 4 - 4 * n = 4 by omega]
   rw [hsz] at hbs;rw [hbl] at hB;have hwl:=S.wds_length b.data.toList n;have hlen4:((b.data.toList.drop (4 * n)).take 4).length = 4:=by rw [← hbl,cM,hsz]
   have A2:=Hd (hA.out.below hW);have R2:=Hd (hR.out.below hW);have HB:=Hd hB;have hg2:w.heap.size + 1 < g:=Nat.lt_of_lt_of_le hA.out.lt hg;have hbw2:Below w.heap.size w w2:=hbw.trans (hW.mono hbw.size);have WORD:Hid (S.wds b.data.toList (n + 1) = S.wds b.data.toList n ++ [M.val (((b.data.toList.drop (4 * n)).take 4).take 4)]):=Hd (by rw [S.wds,if_pos hlt,S.word,List.take_take,Nat.min_self]);generalize (b.data.toList.drop (4 * n)).take 4 = l4 at *;generalize S.wds b.data.toList n = ws at *;have HWL:=Hd hwl;have HL4:=Hd hlen4;clear hwl hlen4 hB hbl hsz hA hR hbw
   go_wp2_with fail
   go_loopw [6,24] (fun _ t wx=>∃ j:Nat,j ≤ 4 ∧ t = .int .i64 (j:Int) ∧ Hid (Arr 224 wx (w.heap.size + 1) (bZ (ws ++ [M.val (l4.take j)]))) ∧ Hid (Arr 224 wx w.heap.size (bZ [])) ∧ Hid (Buf wx g l4) ∧ Below w.heap.size w wx) (fun _ t _=>5 - (intOf t).toNat)
   case atStart=>exact ⟨0,by omega,rfl,Hd (by rw [List.take_zero,M.val_nil,PZ _ (by rw [HWL.out]; omega)]; exact A2.out),R2,HB,hbw2⟩
   case round =>
    obtain ⟨j,hj,rfl,hA,hR,hBf,hbx⟩:=hrel
    by_cases hjl:j < 4
    ·have hji:(j:Int) < 4:=by omega
     have hjl4:j < l4.length:=by rw [HL4.out]; exact hjl
     have hcb:=hBf.out.cell j hjl4;have hfl:n < (bZ (ws ++ [M.val (l4.take j)])).length:=by rw [lR _ (by rw [List.length_append,HWL.out]; simp; omega)]; omega
     have hca:=hA.out.cell n hfl;have hfr:=hA.out.free n
     have hget:(bZ (ws ++ [M.val (l4.take j)]))[n] = M.val (l4.take j):=by
      rw [CL _ n (by rw [List.length_append,HWL.out]; simp) hfl,List.getD_eq_getElem?_getD,List.getElem?_append_right (by rw [HWL.out]; exact Nat.le_refl _),HWL.out,Nat.sub_self]
      rfl
     rw [hget] at hca;have hc256:=UInt8.toNat_lt (l4[j]);have hv24:=RL l4 j (by omega);have hO:=aCE _ _ hv24 hc256;have hset:=hA.out.set n (M.val (l4.take j) * 256 + (l4[j]).toNat);have hval:M.val (l4.take (j + 1)) = M.val (l4.take j) * 256 + (l4[j]).toNat:=by rw [List.take_succ_eq_append_getElem hjl4,M.val_snoc]
     have hfs:=QA ws (M.val (l4.take j)) (M.val (l4.take j) * 256 + (l4[j]).toNat) (by rw [HWL.out]; omega);rw [HWL.out] at hfs;rw [hfs,← hval] at hset;rw [← hval] at hO;have NXA:=Hd hset;have NXR:=Hd (hR.out.other ⟨w.heap.size + 1,n,none⟩ (.int .u32 ((M.val (l4.take (j + 1)):Nat):Int)) (by simp));have NXB:=Hd (hBf.out.other ⟨w.heap.size + 1,n,none⟩ (.int .u32 ((M.val (l4.take (j + 1)):Nat):Int)) (by show g ≠ w.heap.size + 1; omega));have hv32:M.val (l4.take (j + 1)) < 4294967296:=by rw [hval]; omega
     clear hset hval hfs hget hfl hA hR hBf;generalize hV:M.val (l4.take (j + 1)) = v2 at *;have V2:=Hd hV;clear hV;generalize M.val (l4.take j) = v1 at *;generalize (l4[j]).toNat = c at *;clear hjl4;go_wp2_with fail;go_roundw
     case rel=>exact ⟨j + 1,by omega,by go_num,by rw [V2.out]; exact NXA,NXR,NXB,hbx.setCell (by simp) _⟩
     case measure=>simp [intOf]; omega
    ·obtain rfl:j = 4:=by omega
     have AN:=Hd (show Arr 224 _ (w.heap.size + 1) (bZ (S.wds b.data.toList (n + 1))) by rw [WORD.out]; exact hA.out);have hji:¬ (((4:Nat):Int) < 4):=by omega
     go_wp2_with fail;go_roundw
     case rel=>exact ⟨n + 1,by omega,by go_num,AN,hR,hbx⟩
     case measure=>simp [intOf]; omega
  ·obtain rfl:n = 16:=by omega
   have hli:¬ (((16:Nat):Int) < 16):=by omega
   go_wp2_with fail
   go_loopw [7] (fun i wx=>∃ n:Nat,16 ≤ n ∧ n ≤ 64 ∧ i = .int .i64 (n:Int) ∧ Hid (Arr 224 wx (w.heap.size + 1) (bZ (S.wds b.data.toList n))) ∧ Hid (Arr 224 wx w.heap.size (bZ [])) ∧ Below w.heap.size w wx) (fun i _=>65 - (intOf i).toNat)
   case atStart=>exact ⟨16,by omega,by omega,rfl,hA,hR,hbw⟩
   case round =>
    obtain ⟨n,hn16,hn64,rfl,hA,hR,hbx⟩:=hrel;have hwl:=S.wds_length b.data.toList n;have hwlt:=S.wds_lt b.data.toList n
    by_cases hlt:n < 64
    ·have hli:(n:Int) < 64:=by omega
     have hi0:16 ≤ (n:Int):=by omega
     have WORD:Hid (S.wds b.data.toList (n + 1) = S.wds b.data.toList n ++ [S.wnext (S.wds b.data.toList n) n]):=Hd (by rw [S.wds,if_neg (by omega)])
     have get:∀ k,k < n → ∃ v,v < 4294967296 ∧ (S.wds b.data.toList n).getD k 0 = v ∧ wr.cell? ⟨w.heap.size + 1,k,none⟩ = some (.int .u32 ((v:Nat):Int)):=fun k hk=>by
      have hkl:k < (bZ (S.wds b.data.toList n)).length:=by rw [lR _ (by omega)]; omega
      have hkw:k < (S.wds b.data.toList n).length:=by omega
      refine ⟨_,?_,rfl,?_⟩
      ·rw [List.getD_eq_getElem?_getD,List.getElem?_eq_getElem hkw]; exact hwlt _ (List.getElem_mem hkw)
      ·have:=hA.out.cell k hkl
       rwa [CL _ k hkw hkl] at this
     obtain ⟨x,hx,ex,cx⟩:=get (n - 15) (by omega);obtain ⟨y,hy,ey,cy⟩:=get (n - 2) (by omega);obtain ⟨z,hz,ez,cz⟩:=get (n - 7) (by omega);obtain ⟨u,hu,eu,cu⟩:=get (n - 16) (by omega);have hnx:S.wnext (S.wds b.data.toList n) n = S.add (S.add (S.add (S.s1 y) z) (S.s0 x)) u:=QW _ _ ex ey ez eu;have hfn:=QB (S.wds b.data.toList n) (S.wnext (S.wds b.data.toList n) n) (by omega);rw [hwl,← WORD.out,hnx] at hfn;have hfr:=hA.out.free n;have hfl:n < (bZ (S.wds b.data.toList n)).length:=by rw [lR _ (by omega)]; omega
     have hcn:=hA.out.cell n hfl;generalize (Value.int .u32 (((bZ (S.wds b.data.toList n))[n]:Nat):Int)) = cv at hcn;obtain ⟨p1,f1,f2⟩:=ZG x hx;obtain ⟨p2,f3,f4⟩:=ZF y hy;have g1:=kA (S.s1 y) z;have g2:=kA (S.add (S.s1 y) z) (S.s0 x);have g3:=kA (S.add (S.add (S.s1 y) z) (S.s0 x)) u;have HN:=Hd hfn;clear hnx hfn hfl get hwl hwlt ex ey ez eu WORD;generalize S.add (S.add (S.add (S.s1 y) z) (S.s0 x)) u = q3 at *;generalize S.add (S.add (S.s1 y) z) (S.s0 x) = q2 at *;generalize S.add (S.s1 y) z = q1 at *;generalize S.s0 x = sx at *
     generalize S.s1 y = sy at *;obtain ⟨g11,g12⟩:=g1;obtain ⟨g21,g22⟩:=g2;obtain ⟨g31,g32⟩:=g3;go_wp2_with fail
     go_quiet (fail)
     go_wp2_with fail;refine (JT _ _ hx).mono ?_;rintro e w9 ⟨rfl,rfl⟩;go_wp2_with fail;refine (AB _ _ hx).mono ?_;rintro e w9 ⟨rfl,rfl⟩;go_wp2_with fail;refine (AC _ _ hy).mono ?_;rintro e w9 ⟨rfl,rfl⟩;go_wp2_with fail;refine (AA _ _ hy).mono ?_;rintro e w9 ⟨rfl,rfl⟩;obtain ⟨wq,hwq⟩:∃ wq,wr.drewN nq = wq:=⟨_,rfl⟩
     rw [hwq];have HA2:=Hd (show Arr 224 wq (w.heap.size + 1) _ by rw [← hwq]; exact hA.out.drewN nq);have HR2:=Hd (show Arr 224 wq w.heap.size _ by rw [← hwq]; exact hR.out.drewN nq);have hbx2:Below w.heap.size w wq:=by rw [← hwq]; exact bB hbx nq
     have cz2:wq.cell? ⟨w.heap.size + 1,n - 7,none⟩ = some (.int .u32 ((z:Nat):Int)):=by rw [← hwq]; exact cz
     have cu2:wq.cell? ⟨w.heap.size + 1,n - 16,none⟩ = some (.int .u32 ((u:Nat):Int)):=by rw [← hwq]; exact cu
     have cn2:wq.cell? ⟨w.heap.size + 1,n,none⟩ = some cv:=by rw [← hwq]; exact hcn
     have fr2:wq.frozen? ⟨w.heap.size + 1,n,none⟩ = false:=by rw [← hwq]; exact hfr
     clear hwq hA hR hbx cz cu cx cy hcn hfr;go_wp2_with fail
     go_region
     all_goals
      go_wp2_with fail;go_roundw
      case rel=>exact ⟨n + 1,by omega,by omega,by go_num,Hd (by rw [← HN.out]; exact (HA2.out.set n q3).drew),Hd ((HR2.out.other _ _ (by simp)).drew),(hbx2.setCell (by simp) _).drew⟩
      case measure=>simp [intOf]; omega
    ·obtain rfl:n = 64:=by omega
     have hli:¬ (((64:Nat):Int) < 64):=by omega
     have hA2:=hA.out;rw [QC _ hwl] at hA2;change Arr _ _ _ (W64 b.data.toList) at hA2;rw [HL.out] at hA2;have hlen:L.length = 64:=by rw [← HL.out]; exact S.wds_length _ _
     have hinfo:(Tryz.prog.info? 224).map (·.size) = some (U L).size:=by rw [bQ,hlen]; kernel_rfl
     have hold:(U (bZ [])).size = (U L).size:=by rw [bQ,bQ,hlen]; rfl
     have hone:=nD L;have hR2:=hR.out;have hrow:=hR2.row L;have hdone:Below w.heap.size w (wr.setRow w.heap.size (U L)):=below_setRow hbx (Nat.le_refl _) _;have A2:=Hd hA2;have R2:=Hd hR2;have IN:=Hd hinfo;have OL:=Hd hold;have ON:=Hd hone;have RW:=Hd hrow;clear hA2 hinfo hold hone hR2 hrow hA hR hwl hwlt hlen;go_upto_region 18 with fail
     go_step
     refine wpList_load_row rfl 224 (.tmp 3) rfl (w.heap.size + 1) rfl 224 (U L) (0,0) _ A2.out Tryz.underlying224 rfl IN.out ?_;refine wpList_store_row rfl 224 (.tmp 2) (.tmp 82) rfl w.heap.size (U L) rfl rfl 224 (U (bZ [])) R2.out IN.out OL.out ON.out ?_;go_wp2_with fail;exact bodyPost_ret (v:=.agg (U L)) (results_cell_row Tryz.results179 _ _ w.heap.size 224 (U L) (0,0) _ rfl RW.out Tryz.underlying224 rfl IN.out) rfl ⟨rfl,hdone⟩
theorem EI (b:ByteArray) (w:World) (hb:b.size = 64) :
  Calls Tryz.prog 179 #[.string b] w fun e w' => e = .returned (.agg (U (W64 b.data.toList))) ∧ Below w.heap.size w w' :=
 zI b _ w hb (show IsW b _ from rfl)
theorem gB:(Tryz.prog.info? 221).map (·.size) = some 8:=by kernel_rfl
theorem tQ:(Tryz.prog.info? 224).map (·.size) = some 64:=by kernel_rfl
theorem PY (w:World) :
  Calls Tryz.prog 152 #[] w fun e w' => e = .returned (.agg (U S.HS.list)) ∧ Below w.heap.size w w' := by
 go_enter Tryz.func152,Tryz.ntmps152;go_wp2_with fail;exact bodyPost_ret (v:=.agg (U S.HS.list)) (by simp [results,Tryz.results152,go_sem]; rfl) rfl ⟨rfl,Br.alloc (Nat.le_refl _) _⟩
def IsK (L:List Nat):Prop:=S.KS = L
theorem EF (L:List Nat) (w:World) (HL:IsK L) :
  Calls Tryz.prog 153 #[] w fun e w' => e = .returned (.agg (U L)) ∧ Below w.heap.size w w' := by
 have hlen:L.length = 64:=by have h:S.KS = L:=HL; rw [← h]; rfl
 have hone:=nD L;have hinfo:(Tryz.prog.info? 224).map (·.size) = some (U L).size:=by rw [bQ,hlen]; exact tQ
 have hold:(U (bZ [])).size = (U L).size:=by rw [bQ,bQ,hlen]; rfl
 have hZ:Arr 224 (w.alloc (.cells (U (bZ [])) 224)) w.heap.size (bZ []):=Arr.new w _;have hrow:=hZ.row L;have hdone:Below w.heap.size w ((w.alloc (.cells (U (bZ [])) 224)).setRow w.heap.size (U L)):=below_setRow (Br.alloc (Nat.le_refl _) _) (Nat.le_refl _) _;have RW:=Hd hrow;have IN:=Hd hinfo;have OL:=Hd hold;have ON:=Hd hone;have HZ:=Hd hZ;clear hlen hone hinfo hold hZ hrow;go_enter Tryz.func153,Tryz.ntmps153;go_upto_region 1 with fail
 go_step
 refine wpList_build rfl _ _ rfl (by kernel_rfl) ?_;generalize hV:(Option.getD (Program.built _ _ _) #[]) = V
 have hVE:V = U L:=by
  have h:S.KS = L:=HL;rw [← h];exact hV.symm.trans (by kernel_rfl)
 subst hVE;clear hV;refine wpList_store_row rfl 224 (.tmp 0) (.tmp 1) rfl w.heap.size (U L) rfl rfl 224 (U (bZ [])) HZ.out IN.out OL.out ON.out ?_;go_wp2_with fail;exact bodyPost_ret (v:=.agg (U L)) (results_cell_row Tryz.results153 _ _ w.heap.size 224 (U L) (0,0) _ rfl RW.out Tryz.underlying224 rfl IN.out) rfl ⟨rfl,hdone⟩
theorem MQ (w:World) :
  Calls Tryz.prog 153 #[] w fun e w' => e = .returned (.agg (U S.KS)) ∧ Below w.heap.size w w' :=
 EF _ w (show IsK _ from rfl)
theorem aET (x:Nat):S.S1 x = S.x3 (S.rot x 6) (S.rot x 11) (S.rot x 25):=rfl
theorem aEU (x:Nat):S.S0 x = S.x3 (S.rot x 2) (S.rot x 13) (S.rot x 22):=rfl
theorem aEJ (e f g:Nat):S.ch e f g = (e &&& f) ^^^ ((4294967295 ^^^ e) &&& g):=rfl
theorem aCT (a b c:Nat):S.maj a b c = S.x3 (a &&& b) (a &&& c) (b &&& c):=rfl
theorem wM (a b c:Nat) (ha:a < 4294967296) (hb:b < 4294967296) (hc:c < 4294967296):bits .xor .u32 (bits .xor .u32 (a:Int) (b:Int)) (c:Int) = (S.x3 a b c:Int):=by
 rw [dI a b ha hb,dI _ c (S.xor_lt ha hb) hc,QV]
theorem aBG (e f g:Nat) (he:e < 4294967296) (hf:f < 4294967296) (hg:g < 4294967296):bits .xor .u32 (bits .and .u32 (e:Int) (f:Int)) (bits .and .u32 (bits .xor .u32 IntKind.u32.max (e:Int)) (g:Int)) = (S.ch e f g:Int):=by
 have hm:IntKind.u32.max = ((4294967295:Nat):Int):=by decide
 rw [hm,gO e f he hf,dI 4294967295 e (by decide) he,gO _ g (S.xor_lt (by decide) he) hg,dI _ _ (S.and_lt he) (S.and_lt (S.xor_lt (by decide) he)),aEJ]
theorem aD0 (s:S.St) (k w:Nat):S.t1 s k w = S.add (S.add (S.add (S.add s.h (S.S1 s.e)) (S.ch s.e s.f s.g)) k) w:=rfl
theorem aDZ (s:S.St):S.t2 s = S.add (S.S0 s.a) (S.maj s.a s.b s.c):=rfl
theorem uG (a b:Nat):S.add a b = (a + b) % 4294967296:=rfl
theorem YP (s:S.St) (k w:Nat) (he:s.e < 4294967296) (hf:s.f < 4294967296) (hg:s.g < 4294967296) :
  ((s.h:Int) + bits .xor .u32 (bits .xor .u32 (S.rot s.e 6:Int) (S.rot s.e 11:Int)) (S.rot s.e 25:Int) + bits .xor .u32 (bits .and .u32 (s.e:Int) (s.f:Int)) (bits .and .u32 (bits .xor .u32 IntKind.u32.max (s.e:Int)) (s.g:Int)) + (k:Int) + (w:Int)) % 4294967296 = (S.t1 s k w:Int):=by
 rw [wM _ _ _ (S.rot_lt _ _ he) (S.rot_lt _ _ he) (S.rot_lt _ _ he),aBG _ _ _ he hf hg,← aET,aD0,uG,uG,uG,uG];generalize S.S1 s.e = p;generalize S.ch s.e s.f s.g = q;omega
theorem YO (s:S.St) (ha:s.a < 4294967296) (hb:s.b < 4294967296) (hc:s.c < 4294967296) :
  (bits .xor .u32 (bits .xor .u32 (S.rot s.a 2:Int) (S.rot s.a 13:Int)) (S.rot s.a 22:Int) + bits .xor .u32 (bits .xor .u32 (bits .and .u32 (s.a:Int) (s.b:Int)) (bits .and .u32 (s.a:Int) (s.c:Int))) (bits .and .u32 (s.b:Int) (s.c:Int))) % 4294967296 = (S.t2 s:Int):=by
 rw [wM _ _ _ (S.rot_lt _ _ ha) (S.rot_lt _ _ ha) (S.rot_lt _ _ ha),gO _ _ ha hb,gO _ _ ha hc,gO _ _ hb hc,wM _ _ _ (S.and_lt ha) (S.and_lt ha) (S.and_lt hb),← aEU,← aCT,aDZ,uG];generalize S.S0 s.a = p;generalize S.maj s.a s.b s.c = q;omega
theorem oN (x:Nat) (k:Int) (w:World) (hx:x < 4294967296) (hk:k = 2 ∨ k = 6 ∨ k = 7 ∨ k = 11 ∨ k = 13 ∨ k = 17 ∨ k = 18 ∨ k = 19 ∨ k = 22 ∨ k = 25) :
  Calls Tryz.prog 180 #[.int .u32 (x:Int),.int .i64 k] w fun e w' => e = .returned (.int .u32 (S.rot x k.toNat:Int)) ∧ w = w' := by
 rcases hk with rfl | rfl | rfl | rfl | rfl | rfl | rfl | rfl | rfl | rfl
 ·exact ZS x w hx
 ·exact ZR x w hx
 ·exact JT x w hx
 ·exact TT x w hx
 ·exact TR x w hx
 ·exact AC x w hx
 ·exact AB x w hx
 ·exact AA x w hx
 ·exact TQ x w hx
 ·exact TP x w hx
theorem Arr.otherRow {T:TypeId} {w:World} {g:Nat} {l:List Nat} (h:Arr T w g l) (k:Nat) (cs:Array Value) (hne:g ≠ k):Arr T (w.setRow k cs) g l:=by
 unfold Arr;rw [setRow_other _ _ _ _ hne];exact h
def iZ (t s:List Nat):Nat → List Nat
 | 0=>t
 | n + 1=>(iZ t s n).set n (S.add (t.getD n 0) (s.getD n 0))
theorem wZ (t s:List Nat) (n:Nat):(iZ t s n).length = t.length:=by
 induction n with
 | zero=>rfl
 | succ n ih=>simp [iZ,ih]
theorem NP (t s:List Nat) (n j:Nat) (h:n ≤ j):(iZ t s n)[j]? = t[j]?:=by
 induction n with
 | zero=>rfl
 | succ n ih=>rw [iZ,List.getElem?_set_ne (by omega),ih (by omega)]
theorem FM (t s:List Nat) (n:Nat) (h:n < (iZ t s n).length):(iZ t s n)[n] = t.getD n 0:=by
 have:=NP t s n n (Nat.le_refl _);rw [List.getElem?_eq_getElem h] at this;rw [List.getD_eq_getElem?_getD,← this]; rfl
theorem aAF (t s:S.St):iZ t.list s.list 8 = (S.plus t s).list:=rfl
def Spreads (b:ByteArray) (W:List Nat):Prop:=∀ w:World,Calls Tryz.prog 179 #[.string b] w fun e w' => e = .returned (.agg (U W)) ∧ Below w.heap.size w w'
theorem Spreads.out {b:ByteArray} {W:List Nat} (h:Spreads b W) (w:World):Calls Tryz.prog 179 #[.string b] w fun e w' => e = .returned (.agg (U W)) ∧ Below w.heap.size w w' := h w
def bD:List Nat:=[0,0,0,0,0,0,0,0]
theorem MF (s:S.St) (b:ByteArray) (gk:Nat) (K W:List Nat) (w:World) (hk:Arr 224 w gk K) (hK:K.length = 64) (HW:Spreads b W) (hlW:W.length = 64) (hs:s.ok) (fin:S.St) (hfin:Hid (S.steps K W s 64 = fin)) (L:List Nat) (HLL:Hid ((S.plus fin s).list = L)) :
  Calls Tryz.prog 154 #[.agg (U s.list),.pointer (some ⟨gk,0,none⟩),.string b] w fun e w' => e = .returned (.agg (U L)) ∧ Below w.heap.size w w' := by
 go_enter Tryz.func154,Tryz.ntmps154;go_wp2_with fail;refine (HW.out _).mono ?_;rintro e w1 ⟨rfl,b1⟩;have hsz2:((w.alloc (.cells (U s.list) 221)).alloc (.cells (U bD) 221)).heap.size = w.heap.size + 2:=by simp
 have H3a:Arr 221 ((w.alloc (.cells (U s.list) 221)).alloc (.cells (U bD) 221)) w.heap.size s.list:=(Arr.new w _).alloc _
 have H6a:Arr 221 ((w.alloc (.cells (U s.list) 221)).alloc (.cells (U bD) 221)) (w.heap.size + 1) bD:=by
  have:=Arr.new (T:=221) (w.alloc (.cells (U s.list) 221)) bD;rwa [show (w.alloc (.cells (U s.list) 221)).heap.size = w.heap.size + 1 by simp] at this
 have HKa:Arr 224 ((w.alloc (.cells (U s.list) 221)).alloc (.cells (U bD) 221)) gk K:=(hk.alloc _).alloc _;have hbelow:Below w.heap.size w ((w.alloc (.cells (U s.list) 221)).alloc (.cells (U bD) 221)):=(Br.alloc (Nat.le_refl _) _).alloc (by simp) _;have hgk:=hk.lt;have b1' : Below ((w.alloc (.cells (U s.list) 221)).alloc (.cells (U bD) 221)).heap.size ((w.alloc (.cells (U s.list) 221)).alloc (.cells (U bD) 221)) w1:=b1;have hw1:w.heap.size + 2 ≤ w1.heap.size:=by have:=b1'.size; rwa [hsz2] at this
 have H3b:=H3a.below b1';have H6b:=H6a.below b1';have HKb:=HKa.below b1';have bb1:Below w.heap.size w w1:=hbelow.trans (b1'.mono (by rw [hsz2]; omega));have H7:Arr 224 (w1.alloc (.cells (U (bZ [])) 224)) w1.heap.size (bZ []):=Arr.new w1 _;have INW:(Tryz.prog.info? 224).map (·.size) = some (U W).size:=by rw [bQ,hlW]; exact tQ
 have OLW:(U (bZ [])).size = (U W).size:=by rw [bQ,bQ,hlW]; rfl
 have ONW:=nD W;have INS:(Tryz.prog.info? 221).map (·.size) = some (U s.list).size:=by rw [bQ]; exact gB
 have ONS:=nD s.list
 have other:∀ {T:TypeId} {g:Nat} {l:List Nat},Arr T w1 g l → Arr T ((w1.alloc (.cells (U (bZ [])) 224)).setRow w1.heap.size (U W)) g l:=fun h=>by
  unfold Arr;rw [setRow_other _ _ _ _ (by have:=h.lt; omega)];exact h.alloc _
 have W7:=H7.row W;have W3:=other H3b;have W6:=other H6b;have WK:=other HKb;have bb2:Below w.heap.size w ((w1.alloc (.cells (U (bZ [])) 224)).setRow w1.heap.size (U W)):=below_setRow (bb1.alloc (by omega) _) (by omega) _;have hszW:((w1.alloc (.cells (U (bZ [])) 224)).setRow w1.heap.size (U W)).heap.size = w1.heap.size + 1:=by simp
 obtain ⟨h7,inw,olw,onw,ins,ons⟩:Hid (Arr 224 (w1.alloc (.cells (U (bZ [])) 224)) w1.heap.size (bZ [])) ∧ Hid ((Tryz.prog.info? 224).map (·.size) = some (U W).size) ∧ Hid ((U (bZ [])).size = (U W).size) ∧ Hid ((U W).all (·.oneCell') = true) ∧ Hid ((Tryz.prog.info? 221).map (·.size) = some (U s.list).size) ∧ Hid ((U s.list).all (·.oneCell') = true):=⟨Hd H7,Hd INW,Hd OLW,Hd ONW,Hd INS,Hd ONS⟩
 clear H3a H6a HKa hbelow b1 b1' H3b H6b HKb H7 INW OLW ONW INS ONS other hsz2 bb1
 go_upto_region 2 with (refine wpList_store_row rfl 224 (.tmp 7) (.tmp 20) rfl w1.heap.size (U W) rfl rfl 224 (U (bZ [])) h7.out inw.out olw.out onw.out ?_)
 generalize hw2:World.setRow _ _ _ = w2
 replace W7:Arr 224 w2 w1.heap.size W:=by rw [← hw2]; exact W7
 replace W3:Arr 221 w2 w.heap.size s.list:=by rw [← hw2]; exact W3
 replace W6:Arr 221 w2 (w.heap.size + 1) bD:=by rw [← hw2]; exact W6
 replace WK:Arr 224 w2 gk K:=by rw [← hw2]; exact WK
 replace bb2:Below w.heap.size w w2:=by rw [← hw2]; exact bb2
 replace hszW:w2.heap.size = w1.heap.size + 1:=by rw [← hw2]; exact hszW
 have h8:Hid (Arr 221 (w2.alloc (.cells (U bD) 221)) w2.heap.size bD):=Hd (Arr.new w2 bD);have ols:Hid ((U bD).size = (U s.list).size):=Hd (by rw [bQ,bQ]; rfl);have V3:=Hd W3
 have other:∀ {T:TypeId} {g:Nat} {l:List Nat},Arr T w2 g l → Arr T ((w2.alloc (.cells (U bD) 221)).setRow w2.heap.size (U s.list)) g l:=fun h=>by
  unfold Arr;rw [setRow_other _ _ _ _ (by have:=h.lt; omega)];exact h.alloc _
 have X8:=h8.out.row s.list;have X7:=other W7;have X3:=other W3;have X6:=other W6;have XK:=other WK;have bb3:Below w.heap.size w ((w2.alloc (.cells (U bD) 221)).setRow w2.heap.size (U s.list)):=below_setRow (bb2.alloc (by omega) _) (by omega) _;have Y:=Hd (And.intro X8 (And.intro X7 (And.intro X3 (And.intro X6 (And.intro XK bb3)))));have Z2:=Hd hszW;clear hw2 W7 W3 W6 WK bb2 hszW other X8 X7 X3 X6 XK bb3 h7 inw olw onw
 go_step
 refine wpList_load_row rfl 221 (.tmp 3) rfl w.heap.size rfl 221 (U s.list) (0,0) _ V3.out Tryz.underlying221 rfl ins.out ?_
 go_upto_region 3 with (refine wpList_store_row rfl 221 (.tmp 8) (.tmp 21) rfl w2.heap.size (U s.list) rfl rfl 221 (U bD) h8.out ins.out ols.out ons.out ?_)
 generalize hw3:World.setRow _ _ _ = w3;have Y2:Hid (Arr 221 w3 w2.heap.size s.list ∧ Arr 224 w3 w1.heap.size W ∧ Arr 221 w3 w.heap.size s.list ∧ Arr 221 w3 (w.heap.size + 1) bD ∧ Arr 224 w3 gk K ∧ Below w.heap.size w w3):=Hd (by rw [← hw3]; exact Y.out);have hne8:w2.heap.size = w1.heap.size + 1:=Z2.out;clear hw3 Y V3 h8 ols;go_wp2_with fail;rw [hne8] at Y2;have hok0:=Hd hs;clear hs hne8 Z2
 go_loopw [22] (fun i wr=>∃ n:Nat,n ≤ 64 ∧ i = .int .i64 (n:Int) ∧ Hid (Arr 221 wr (w1.heap.size + 1) (S.steps K W s n).list ∧ Arr 224 wr w1.heap.size W ∧ Arr 221 wr w.heap.size s.list ∧ Arr 221 wr (w.heap.size + 1) bD ∧ Arr 224 wr gk K ∧ Below w.heap.size w wr)) (fun i _=>65 - (intOf i).toNat)
 case atStart=>exact ⟨0,by omega,rfl,Y2⟩
 case round =>
  obtain ⟨n,hn,rfl,HY⟩:=hrel
  by_cases hlt:n < 64
  ·have hli:(n:Int) < 64:=by omega
   obtain ⟨A8,A7,A3,A6,AK,hbw⟩:=HY.out;have hok:=S.steps_ok K W s n hok0.out;have NXT:S.steps K W s (n + 1) = S.step (S.steps K W s n) (K.getD n 0) (W.getD n 0):=rfl;generalize S.steps K W s n = t at *;obtain ⟨ta,tb,tc,td,te,tf,tg,th⟩:=t;obtain ⟨oa,ob,oc,od,oe,of', og,oh⟩:=hok;simp only at oa ob oc od oe of' og oh;have c0:wr.cell? ⟨w1.heap.size + 1,0,none⟩ = some (.int .u32 ((ta:Nat):Int)):=A8.cell 0 (by simp [S.St.list]);have c1:wr.cell? ⟨w1.heap.size + 1,1,none⟩ = some (.int .u32 ((tb:Nat):Int)):=A8.cell 1 (by simp [S.St.list])
   have c2:wr.cell? ⟨w1.heap.size + 1,2,none⟩ = some (.int .u32 ((tc:Nat):Int)):=A8.cell 2 (by simp [S.St.list]);have c3:wr.cell? ⟨w1.heap.size + 1,3,none⟩ = some (.int .u32 ((td:Nat):Int)):=A8.cell 3 (by simp [S.St.list]);have c4:wr.cell? ⟨w1.heap.size + 1,4,none⟩ = some (.int .u32 ((te:Nat):Int)):=A8.cell 4 (by simp [S.St.list]);have c5:wr.cell? ⟨w1.heap.size + 1,5,none⟩ = some (.int .u32 ((tf:Nat):Int)):=A8.cell 5 (by simp [S.St.list])
   have c6:wr.cell? ⟨w1.heap.size + 1,6,none⟩ = some (.int .u32 ((tg:Nat):Int)):=A8.cell 6 (by simp [S.St.list]);have c7:wr.cell? ⟨w1.heap.size + 1,7,none⟩ = some (.int .u32 ((th:Nat):Int)):=A8.cell 7 (by simp [S.St.list]);have ck:=AK.cell n (by omega);have cw:=A7.cell n (by omega);have ek:K.getD n 0 = K[n]:=by rw [List.getD_eq_getElem?_getD,List.getElem?_eq_getElem (by omega)]; rfl
   have ew:W.getD n 0 = W[n]:=by rw [List.getD_eq_getElem?_getD,List.getElem?_eq_getElem (by omega)]; rfl
   rw [ek,ew] at NXT;generalize K[n]'(by omega) = kv at *;generalize W[n]'(by omega) = wv at *;clear ek ew A8 A7 A3 A6 AK hbw hlt;have NX:=Hd NXT;clear NXT;go_wp2_with fail
   go_quiet (fail)
   obtain ⟨wq,hwq⟩:∃ wq,wr.drewN nq = wq:=⟨_,rfl⟩
   rw [hwq]
   replace c3:wq.cell? ⟨w1.heap.size + 1,3,none⟩ = some (.int .u32 ((td:Nat):Int)):=by rw [← hwq]; exact c3
   replace c7:wq.cell? ⟨w1.heap.size + 1,7,none⟩ = some (.int .u32 ((th:Nat):Int)):=by rw [← hwq]; exact c7
   replace ck:wq.cell? ⟨gk,n,none⟩ = some (.int .u32 ((kv:Nat):Int)):=by rw [← hwq]; exact ck
   replace cw:wq.cell? ⟨w1.heap.size,n,none⟩ = some (.int .u32 ((wv:Nat):Int)):=by rw [← hwq]; exact cw
   have HY2:Hid (_ ∧ _):=Hd (show Arr 221 wq (w1.heap.size + 1) (S.St.list ⟨ta,tb,tc,td,te,tf,tg,th⟩) ∧ Arr 224 wq w1.heap.size W ∧ Arr 221 wq w.heap.size s.list ∧ Arr 221 wq (w.heap.size + 1) bD ∧ Arr 224 wq gk K ∧ Below w.heap.size w wq by
    rw [← hwq]; exact ⟨HY.out.1,HY.out.2.1,HY.out.2.2.1,HY.out.2.2.2.1,HY.out.2.2.2.2.1,bB HY.out.2.2.2.2.2 nq⟩)
   clear c0 c1 c2 c4 c5 c6 HY hwq;go_wp2_with fail
   go_quiet ((go_at_call 180; exact Calls.quiet_of_same ((oN _ _ _ oe (by omega)).mono fun _ _ h=>⟨h.1,h.2.symm⟩)))
   go_wp2_with fail;have hT:=YP ⟨ta,tb,tc,td,te,tf,tg,th⟩ kv wv oe of' og;have hU:=YO ⟨ta,tb,tc,td,te,tf,tg,th⟩ oa ob oc;have hstep:S.step ⟨ta,tb,tc,td,te,tf,tg,th⟩ kv wv = ⟨S.add (S.t1 ⟨ta,tb,tc,td,te,tf,tg,th⟩ kv wv) (S.t2 ⟨ta,tb,tc,td,te,tf,tg,th⟩),ta,tb,tc,S.add td (S.t1 ⟨ta,tb,tc,td,te,tf,tg,th⟩ kv wv),te,tf,tg⟩:=rfl;generalize S.t1 ⟨ta,tb,tc,td,te,tf,tg,th⟩ kv wv = T1 at *;generalize S.t2 ⟨ta,tb,tc,td,te,tf,tg,th⟩ = T2 at *;simp only at hT hU;rw [hT];have HU:=Hd hU;have NX2:=Hd (NX.out.trans hstep)
   have g1:=(kA T1 T2).1;have g2:=(kA td T1).1;clear hT hU hstep NX;generalize S.add T1 T2 = q1 at *;generalize S.add td T1 = q2 at *;obtain ⟨wz,hwz⟩:∃ wz,wq.drewN nq = wz:=⟨_,rfl⟩
   rw [hwz];have hc3:wz.cell? ⟨w1.heap.size + 1,3,none⟩ = some (.int .u32 ((td:Nat):Int)):=by rw [← hwz]; exact c3
   have HY3:Hid (_ ∧ _):=Hd (show Arr 221 wz (w1.heap.size + 1) (S.St.list ⟨ta,tb,tc,td,te,tf,tg,th⟩) ∧ Arr 224 wz w1.heap.size W ∧ Arr 221 wz w.heap.size s.list ∧ Arr 221 wz (w.heap.size + 1) bD ∧ Arr 224 wz gk K ∧ Below w.heap.size w wz by
    rw [← hwz]; exact ⟨HY2.out.1,HY2.out.2.1,HY2.out.2.2.1,HY2.out.2.2.2.1,HY2.out.2.2.2.2.1,bB HY2.out.2.2.2.2.2 _⟩)
   clear c3 c7 ck cw HY2 hwz;refine (oN _ _ _ oa (by omega)).mono ?_;rintro e w9 ⟨rfl,rfl⟩;go_wp2_with fail;refine (oN _ _ _ oa (by omega)).mono ?_;rintro e w9 ⟨rfl,rfl⟩;go_wp2_with fail;refine (oN _ _ _ oa (by omega)).mono ?_;rintro e w9 ⟨rfl,rfl⟩;go_upto_region 9 with fail
   rw [HU.out];have i8:Hid ((Tryz.prog.info? 221).map (·.size) = some (U [q1,ta,tb,tc,q2,te,tf,tg]).size):=Hd (by rw [bQ]; exact gB);have o8:Hid ((U (S.St.list ⟨ta,tb,tc,td,te,tf,tg,th⟩)).size = (U [q1,ta,tb,tc,q2,te,tf,tg]).size):=Hd (by rw [bQ,bQ]; simp [S.St.list]);have n8:Hid ((U [q1,ta,tb,tc,q2,te,tf,tg]).all (·.oneCell') = true):=Hd (nD _)
   have FIN:Hid (Arr 221 (wz.setRow (w1.heap.size + 1) (U [q1,ta,tb,tc,q2,te,tf,tg])) (w1.heap.size + 1) (S.steps K W s (n + 1)).list ∧ Arr 224 (wz.setRow (w1.heap.size + 1) (U [q1,ta,tb,tc,q2,te,tf,tg])) w1.heap.size W ∧ Arr 221 (wz.setRow (w1.heap.size + 1) (U [q1,ta,tb,tc,q2,te,tf,tg])) w.heap.size s.list ∧ Arr 221 (wz.setRow (w1.heap.size + 1) (U [q1,ta,tb,tc,q2,te,tf,tg])) (w.heap.size + 1) bD ∧ Arr 224 (wz.setRow (w1.heap.size + 1) (U [q1,ta,tb,tc,q2,te,tf,tg])) gk K ∧ Below w.heap.size w (wz.setRow (w1.heap.size + 1) (U [q1,ta,tb,tc,q2,te,tf,tg]))):=Hd (by
    obtain ⟨a8,a7,a3,a6,ak,bw⟩:=HY3.out;refine ⟨?_,a7.otherRow _ _ (by omega),a3.otherRow _ _ (by omega),a6.otherRow _ _ (by omega),ak.otherRow _ _ (by omega),below_setRow bw (by omega) _⟩;rw [NX2.out];exact a8.row [q1,ta,tb,tc,q2,te,tf,tg])
   have a8:=Hd HY3.out.1;clear HY3 NX2 HU
   go_wp2_with (refine wpList_store_row rfl 221 (.tmp 8) (.tmp 100) rfl (w1.heap.size + 1) (U [q1,ta,tb,tc,q2,te,tf,tg]) rfl rfl 221 (U (S.St.list ⟨ta,tb,tc,td,te,tf,tg,th⟩)) a8.out i8.out o8.out n8.out ?_)
   go_roundw
   case rel=>exact ⟨n + 1,by omega,by go_num,FIN⟩
   case measure=>simp [intOf]; omega
  ·obtain rfl:n = 64:=by omega
   have hli:¬ (((64:Nat):Int) < 64):=by omega
   have HYt:=HY;have HF:Hid (S.steps K W s 64 = fin):=hfin;rw [HF.out] at HYt;clear HY;go_wp2_with fail
   go_loopw [102] (fun i wr=>∃ n:Nat,n ≤ 8 ∧ i = .int .i64 (n:Int) ∧ Hid (Arr 221 wr (w1.heap.size + 1) (iZ fin.list s.list n) ∧ Arr 221 wr w.heap.size s.list ∧ Arr 221 wr (w.heap.size + 1) bD ∧ Below w.heap.size w wr)) (fun i _=>9 - (intOf i).toNat)
   case atStart=>exact ⟨0,by omega,rfl,Hd ⟨HYt.out.1,HYt.out.2.2.1,HYt.out.2.2.2.1,HYt.out.2.2.2.2.2⟩⟩
   case round =>
    obtain ⟨n,hn,rfl,HZ⟩:=hrel
    by_cases hlt:n < 8
    ·have hli:(n:Int) < 8:=by omega
     obtain ⟨a8,a3,a6,hbw⟩:=HZ.out;have hl8:n < (iZ fin.list s.list n).length:=by rw [wZ]; exact hlt
     have hls:n < s.list.length:=hlt;have c8:=a8.cell n hl8;have f8:=a8.free n;have c3:=a3.cell n hls;have e8:(iZ fin.list s.list n)[n] = fin.list.getD n 0:=FM _ _ n hl8;have e3:s.list[n] = s.list.getD n 0:=by rw [List.getD_eq_getElem?_getD,List.getElem?_eq_getElem hls]; rfl
     rw [e8] at c8;rw [e3] at c3;have NX:iZ fin.list s.list (n + 1) = (iZ fin.list s.list n).set n (S.add (fin.list.getD n 0) (s.list.getD n 0)):=rfl;have g1:=kA (fin.list.getD n 0) (s.list.getD n 0);generalize S.add (fin.list.getD n 0) (s.list.getD n 0) = q at *;generalize fin.list.getD n 0 = x at *;generalize s.list.getD n 0 = y at *;obtain ⟨g11,g12⟩:=g1
     have FIN:Hid (Arr 221 (wr.setCell ⟨w1.heap.size + 1,n,none⟩ (.int .u32 ((q:Nat):Int))).drew (w1.heap.size + 1) (iZ fin.list s.list (n + 1)) ∧ Arr 221 (wr.setCell ⟨w1.heap.size + 1,n,none⟩ (.int .u32 ((q:Nat):Int))).drew w.heap.size s.list ∧ Arr 221 (wr.setCell ⟨w1.heap.size + 1,n,none⟩ (.int .u32 ((q:Nat):Int))).drew (w.heap.size + 1) bD ∧ Below w.heap.size w (wr.setCell ⟨w1.heap.size + 1,n,none⟩ (.int .u32 ((q:Nat):Int))).drew):=Hd (by
      refine ⟨?_,(a3.other _ _ (by show w.heap.size ≠ w1.heap.size + 1; omega)).drew,(a6.other _ _ (by show w.heap.size + 1 ≠ w1.heap.size + 1; omega)).drew,(hbw.setCell (by show w.heap.size ≤ w1.heap.size + 1; omega) _).drew⟩;rw [NX];exact (a8.set n q).drew)
     clear a8 a3 a6 hbw hl8 hls e8 e3 NX HZ HYt;go_wp2_with fail
     go_region
     all_goals
      go_wp2_with fail;go_roundw
      case rel=>exact ⟨n + 1,by omega,by go_num,FIN⟩
      case measure=>simp [intOf]; omega
    ·obtain rfl:n = 8:=by omega
     have hli:¬ (((8:Nat):Int) < 8):=by omega
     obtain ⟨a8,a3,a6,hbw⟩:=HZ.out;rw [aAF,HLL.out] at a8;have hL8:L.length = 8:=by rw [← HLL.out]; rfl
     have i8:Hid ((Tryz.prog.info? 221).map (·.size) = some (U L).size):=Hd (by rw [bQ,hL8]; exact gB);have o8:Hid ((U bD).size = (U L).size):=Hd (by rw [bQ,bQ,hL8]; rfl);have n8:Hid ((U L).all (·.oneCell') = true):=Hd (nD _);have A8:=Hd a8;have A6:=Hd a6;have RW:=Hd (a6.row L);have hdone:Below w.heap.size w (wr.setRow (w.heap.size + 1) (U L)):=below_setRow hbw (by omega) _;clear a8 a3 a6 hbw HZ HYt HF hfin;go_upto_region 16 with fail
     go_step
     refine wpList_load_row rfl 221 (.tmp 8) rfl (w1.heap.size + 1) rfl 221 (U L) (0,0) _ A8.out Tryz.underlying221 rfl i8.out ?_;refine wpList_store_row rfl 221 (.tmp 6) (.tmp 114) rfl (w.heap.size + 1) (U L) rfl rfl 221 (U bD) A6.out i8.out o8.out n8.out ?_;go_wp2_with fail;exact bodyPost_ret (v:=.agg (U L)) (results_cell_row Tryz.results154 _ _ (w.heap.size + 1) 221 (U L) (0,0) _ rfl RW.out Tryz.underlying221 rfl i8.out) rfl ⟨rfl,hdone⟩
theorem RN (s:S.St) (b:ByteArray) (gk:Nat) (w:World) (hb:b.size = 64) (hk:Arr 224 w gk S.KS) (hs:s.ok) :
  Calls Tryz.prog 154 #[.agg (U s.list),.pointer (some ⟨gk,0,none⟩),.string b] w fun e w' => e = .returned (.agg (U (S.turn s b.data.toList).list)) ∧ Below w.heap.size w w' :=
 MF s b gk S.KS (W64 b.data.toList) w hk (by decide) (fun w' => EI b w' hb) (S.wds_length _ _) hs _ (Hd rfl) _ (Hd rfl)
theorem xY {ε α β:Type} {x:Except ε α} {f:α → Except ε β} {r:β} (h:(x >>= f) = .ok r):∃ a,x = .ok a ∧ f a = .ok r:=by
 cases x with
 | error e=>exact absurd h (by simp [bind,Except.bind])
 | ok a=>exact ⟨a,rfl,h⟩
theorem mW {α β:Type} {m:String} {f:α → Except String β} {r:β} (h:(((MonadExcept.throw m):Except String α) >>= f) = .ok r):False:=by
 obtain ⟨a,ha,_⟩:=xY h
 cases ha
theorem sB {p:Program} {w:World} {at_:Addr} {u:TypeId} {k:Addr} {v:Value} {b:Bool} {r:World × List Addr} (h:w.viewStore p at_ u k v b = .ok r):r.1.tape = w.tape:=by
 unfold World.viewStore at h
 dsimp only at h
 split at h
 ·exact (mW h).elim
 ·obtain ⟨⟨c,e,fr,first,like,cells⟩,hx,h⟩:=xY h
  dsimp only at h
  split at h
  ·split at h
   ·exact (mW h).elim
   ·obtain ⟨c', hc', h⟩:=xY h
    cases h
    rfl
  ·cases h
theorem uP {p:Program} {w:World} {a:Addr} {v:Value} {b:Bool} {r:World × List Addr} (h:w.farStore p a v b = .ok r):r.1.tape = w.tape:=by
 unfold World.farStore at h
 split at h
 ·split at h
  ·next hv=>cases h; exact sB hv
  ·cases h
 ·cases h
theorem XO {α:Type} (x:Ask α):∀ w:World,(w.ask x).2.tape = w.tape:=by
 induction x with
 | done a=>intro w; simp only [World.ask]
 | ask what range k ih =>
  intro w;simp only [World.ask]
  split
  ·exact ih _ _
  ·exact (ih _ _).trans rfl
theorem SF (w:World) (c:Sys):(w.sys c).2.tape = w.tape:=by
 have h:=XO (Kernel.perform c w.os) w;unfold World.sys
 split
 ·rfl
 ·next hh=>rw [hh] at h; exact h
theorem TM {α:Type} (p:Program) (x:Sem α):∀ (w:World) (v:α) (w' : World),x.run p w = .ok v w' → w'.tape = w.tape:=by
 induction x with
 | pure a=>intro w v w' h; simp only [Sem.run] at h; cases h; rfl
 | load m a k ih =>
  intro w v w' h;simp only [Sem.run] at h
  split at h
  ·exact ih _ _ _ _ h
  ·split at h
   ·exact ih _ _ _ _ h
   ·cases h
 | store m a u k ih =>
  intro w v w' h
  by_cases hag:(∃ c,u = .agg c) ∨ ∃ c,u = .tuple c
  ·rcases hag with ⟨c,rfl⟩ | ⟨c,rfl⟩ <;> (simp only [Sem.run] at h; cases h)
  ·have e:(Sem.store m a u k).run p w = (match w.cell? a with
     | some _=>if w.frozen? a then .halt (.unsupported (.unsafePointer "a write to bytes that a string shares")) w else k.run p (w.setCell a u)
     | none=>match w.farStore p a u (m == .atomic) with
      | .ok (w,_)=>k.run p w
      | .error h=>.halt h w):=by
    cases u <;> first | rfl | exact absurd (Or.inl ⟨_,rfl⟩) hag | exact absurd (Or.inr ⟨_,rfl⟩) hag
   rw [e] at h
   split at h
   ·split at h
    ·cases h
    ·exact (ih _ _ _ h).trans rfl
   ·split at h
    ·next hf=>exact (ih _ _ _ h).trans (uP hf)
    ·cases h
 | new o k ih=>intro w v w' h; simp only [Sem.run] at h; exact (ih _ _ _ _ h).trans rfl
 | shape r k ih=>intro w v w' h; simp only [Sem.run] at h; exact ih _ _ _ _ h
 | freeze a n k ih=>intro w v w' h; simp only [Sem.run] at h; exact (ih _ _ _ h).trans (by unfold World.freeze; split <;> rfl)
 | frozen a k ih=>intro w v w' h; simp only [Sem.run] at h; exact ih _ _ _ _ h
 | getObj r k ih =>
  intro w v w' h;simp only [Sem.run] at h
  split at h
  ·cases h
  ·exact ih _ _ _ _ h
  ·cases h
 | setObj r o k ih =>
  intro w v w' h;simp only [Sem.run] at h
  split at h
  ·cases h
  ·exact (ih _ _ _ h).trans rfl
  ·cases h
 | choose q k ih =>
  intro w v w' h;simp only [Sem.run] at h
  split at h
  ·exact ih _ _ _ _ h
  ·exact (ih _ _ _ _ h).trans rfl
 | sys c k ih=>intro w v w' h; simp only [Sem.run] at h; exact (ih _ _ _ _ h).trans (SF w c)
 | program k ih=>intro w v w' h; simp only [Sem.run] at h; exact ih _ _ _ _ h
 | mark m k ih=>intro w v w' h; simp only [Sem.run] at h; exact ih _ _ _ h
 | halt x=>intro w v w' h; simp only [Sem.run] at h; cases h
theorem QQ (w:World) (s:ByteArray) (cap:Nat) (hc:s.size ≤ cap) :
  Came (w.drew.alloc (.cells (bytesRow s cap) 5 ((bytesRow s cap).size,(bytesRow s cap).size + 1))) 1 (some ⟨w.heap.size,0,none⟩) w.heap.size 0 s.size cap (s.data.toList.map fun b=>Value.int .u8 (b.toNat:Int)):=by
 have hsz:(bytesRow s cap).size = cap:=by
  have:s.data.size = s.size:=rfl;simp [bytesRow]; omega
 have hl:s.data.toList.length = s.size:=by simp
 refine ⟨hc,fun _=>rfl,fun _=>by simp,by simp,fun j u hu=>?_,fun j hj=>?_⟩
 ·obtain ⟨hj,he⟩:=List.getElem?_eq_some_iff.1 hu
  rw [List.length_map] at hj;have h:=(Buf.made w s cap).cell j hj;rw [List.getElem_map] at he;rw [Nat.zero_add,h,he]
 ·have hh:=han w.drew (.cells (bytesRow s cap) 5 ((bytesRow s cap).size,(bytesRow s cap).size + 1))
  have hd:w.drew.heap.size = w.heap.size:=rfl;rw [hd] at hh;have hj' : 0 + s.size * 1 + j < (bytesRow s cap).size:=by rw [hsz]; omega
  refine ⟨?_,?_⟩
  ·rw [cell_of_row _ w.heap.size _ (bytesRow s cap) 5 _ hh,Array.getElem?_eq_getElem hj']
   rfl
  ·simp only [World.frozen?,hh]
   simp;omega
theorem aAW:(Tryz.prog.info? 5).map (fun i=>(i.zero,i.size,i.bytes)) = some (some (.int .u8 0),1,1):=by kernel_rfl
def vbS (b:UInt8):Value:=.int .u8 (b.toNat:Int)
structure GrownS (W:World) (b cap:Nat) (s0:List UInt8) (w:World) (v:Value) (ks:List UInt8):Prop where
 onto:Onto W 5 1 (some ⟨b,0,none⟩) b 0 s0.length cap (s0.map vbS) w v ks.length (ks.map vbS)
 tape:w.tape = W.tape
theorem GrownS.shape {W:World} {b cap:Nat} {s0:List UInt8} {w:World} {v:Value} {ks:List UInt8} (h:GrownS W b cap s0 w v ks):∃ base c', v = .slice base (s0.length + ks.length) c' := by
 obtain ⟨base,c', hv,_⟩:=h.onto.shape';exact ⟨base,c', hv⟩
theorem GrownS.below {W:World} {b cap:Nat} {s0:List UInt8} {w:World} {v:Value} {ks:List UInt8} (h:GrownS W b cap s0 w v ks) (hb:b ≤ W.heap.size):Below b W w:=by
 obtain ⟨h1,h2,h3⟩:=h.onto.kept;refine ⟨h1,h.tape,h2,h.onto.kept.size,fun k hk=>?_⟩;have h4:=h3 k (by omega)
 cases hW:W.heap[k]? with
 | none =>
  have:=Array.getElem?_eq_none_iff.1 hW;omega
 | some o =>
  rw [hW] at h4
  cases hw:w.heap[k]? with
  | none=>rw [hw] at h4; cases o <;> cases h4
  | some o' =>
   rw [hw] at h4
   cases o <;> cases o' <;> (try exact h4)
   ·obtain ⟨rfl,rfl,hs,hc⟩:=h4
    exact congrArg (fun z=>some (Obj.cells z _ _)) (Array.ext_getElem? fun j=>hc j (by rintro ⟨j', _,_,e⟩; simp at e; omega))
   ·rcases h4 with ⟨j', _,_,e⟩ | ⟨rfl,rfl⟩
    ·cases e
    ·rfl
theorem GrownS.conv {W:World} {b cap:Nat} {s0:List UInt8} {w:World} {v:Value} {ks:List UInt8} (h:GrownS W b cap s0 w v ks) (hc:Came W 1 (some ⟨b,0,none⟩) b 0 s0.length cap (s0.map vbS)) (hmax:cap ≤ maxLen) (hpos:0 < ks.length) :
  (convert 31 9 v).run Tryz.prog w = .ok (.string (Str (s0 ++ ks))) w:=by
 obtain ⟨g,o', cap', rfl,_,_,hcell⟩:=h.onto.value hc hmax (Or.inr hpos);have hl:(s0 ++ ks).length = s0.length + ks.length:=by simp
 rw [← hl];refine run_convert_bytes_back (P:=Tryz.prog) w 31 9 5 ⟨g,o', none⟩ cap' (s0 ++ ks) Tryz.underlying31 Tryz.underlying5 Tryz.underlying9 (fun j hj=>?_);rw [dG];have:=hcell j (by omega);rw [← List.map_append,List.getElem?_map,List.getElem?_eq_getElem hj] at this;exact this
theorem cF (w:World) {ops:Array Oper} {rest:List Oper} {o:Oper} {a:Act} {Q:Exit → Act → World → Prop} (hgd:o.guard = none) (s x:Operand)
  (ho:o.op = .call { callee:=.builtin .append,args:=#[s,x],argTypes:=#[31,31] })
  {W:World} {b cap:Nat} {s0 ks:List UInt8} {v:Value} (hc:Came W 1 (some ⟨b,0,none⟩) b 0 s0.length cap (s0.map vbS)) (hs:a.eval s = v) (h:GrownS W b cap s0 w v ks)
  (ad:Addr) (c:Nat) (n:UInt8) (hx:a.eval x = .slice (some ad) 1 c) (hn:w.cell? ad = some (vbS n)) (hlen:s0.length + ks.length + 1 ≤ 65536)
  (hK:∀ v' w', GrownS W b cap s0 w' v' (ks ++ [n]) → wpList Tryz.prog ops Q rest (a.put o.dst v') w'):wpList Tryz.prog ops Q (o :: rest) a w:=by
 obtain ⟨i0,hi,hz0,hz1,hz2⟩:=info_parts aAW;refine wpList_plain hgd fun K hK' => ?_
 obtain ⟨v', w', hrun,r⟩:=run_append_onto (P:=Tryz.prog) hc 31 o.type i0 (.int .u8 0) 1 Tryz.underlying31 hi hz0 hz1 hz2 rfl (by decide) h.onto ad c [vbS n] rfl
  (by intro j u hj; match j,hj with
    | 0,hj=>simp at hj; subst hj; simpa [Addr.add] using hn)
  (by intro u hu; simp at hu; subst hu; rfl) (by unfold maxLen; omega) (by omega)
 unfold Oper.wp execOp;simp only [ho,resolve,invoke,builtin,Sem.run_bind,Sem.run_pure,Result.andThen_ok,List.map_toArray,List.map_cons,List.map_nil,hs,hx,hrun];refine hK' _ _ (hK v' w' ⟨?_,(TM _ _ _ _ _ hrun).trans h.tape⟩)
 simpa using r
theorem GrownS.start {W:World} {b cap:Nat} {s0:List UInt8} (hc:Came W 1 (some ⟨b,0,none⟩) b 0 s0.length cap (s0.map vbS)):GrownS W b cap s0 W (.slice (some ⟨b,0,none⟩) s0.length cap) []:=⟨Onto.start hc,rfl⟩
theorem GrownS.alloc {W:World} {b cap:Nat} {s0:List UInt8} {w:World} {v:Value} {ks:List UInt8} (h:GrownS W b cap s0 w v ks) (hc:Came W 1 (some ⟨b,0,none⟩) b 0 s0.length cap (s0.map vbS)) (o:Obj):GrownS W b cap s0 (w.alloc o) v ks:=⟨h.onto.alloc hc o,h.tape⟩
theorem aCS (w:World) (s:ByteArray) (l:List UInt8) (hl:s.data.toList = l) (h:s.size ≤ maxLen):∃ cap w2,(convert 9 31 (.string s)).run Tryz.prog w = .ok (.slice (some ⟨w.heap.size,0,none⟩) (l.length:Nat) cap) w2 ∧ Came w2 1 (some ⟨w.heap.size,0,none⟩) w.heap.size 0 l.length cap (l.map vbS) ∧ cap ≤ maxLen ∧ Below w.heap.size w w2 ∧ w.heap.size < w2.heap.size:=by
 have hsz:s.size = l.length:=by rw [← hl]; simp
 have hr:=run_bytes_of_string (P:=Tryz.prog) w 9 31 5 s Tryz.underlying9 Tryz.underlying31 Tryz.underlying5;have hc:=QQ w s (grownCap w s.size 0 5) (grownCap_ge _ _ _ _);rw [hsz,hl] at hc;rw [hsz] at hr h;exact ⟨_,_,hr,hc,grownCap_le_maxLen w _ 0 _ h,(Br.drew).alloc (Nat.le_refl _) _,by simp⟩
def tkS (Z N j:Nat):List UInt8:=0x80 :: List.replicate Z 0 ++ (M.be 8 N).take j
theorem bS (Z N j:Nat) (h:j ≤ 8):(tkS Z N j).length = Z + 1 + j:=by
 unfold tkS; simp [M.be_length]; omega
theorem YG (Z N:Nat):tkS Z N 0 = 0x80 :: List.replicate Z 0:=by unfold tkS; simp
theorem iR (Z N j:Nat) (h:j < 8):tkS Z N j ++ [UInt8.ofNat (N / 256 ^ (7 - j) % 256)] = tkS Z N (j + 1):=by
 unfold tkS;rw [List.append_assoc,List.take_add_one,M.be_get 8 N j h]
 rfl
theorem YI (l:List UInt8) (size:Nat):l ++ tkS (S.zeros l.length) (size * 8) 8 = S.tail l size:=by
 unfold tkS S.tail;rw [List.take_of_length_le (by rw [M.be_length]; omega)];simp
theorem gU (x:Nat) (h:x < 256):vbS (UInt8.ofNat x) = .int .u8 (x:Int):=by
 unfold vbS; simp [Nat.mod_eq_of_lt h]
theorem MN (s:ByteArray) (l:List UInt8) (hl:s.data.toList = l) (size:Nat) (hs:l.length < 64) (hz:size ≤ 140737488355328) (w:World) :
  Calls Tryz.prog 155 #[.string s,.int .i64 (size:Int)] w fun e w' => e = .returned (.string (Str (S.tail l size))) ∧ Below w.heap.size w w' := by
 have hsz:s.size = l.length:=by rw [← hl]; simp
 have hsm:s.size ≤ maxLen:=by unfold maxLen; omega
 obtain ⟨cap,w2,hcv,hc,hmax,bw,hlt⟩:=aCS w s l hl hsm;have G0:=Hd (GrownS.start hc);go_enter Tryz.func155,Tryz.ntmps155
 go_wp2_with (at_builtin; refine cF _ rfl _ _ rfl hc rfl (G0.out.alloc hc _) ⟨w2.heap.size,0,none⟩ 1 0x80 rfl ?c1 ?c2 ?_)
 case c1=>simp [vbS]
 case c2=>simp; omega
 intro v1 w3 G1;obtain ⟨base1,c1,rfl⟩:=G1.shape;have HG1:=Hd G1;clear G0 G1
 have hZ:∀ m:Nat,m ≤ S.zeros l.length → (((l.length:Int) + 1 + (m:Int)) % 64 = 56 ↔ m = S.zeros l.length):=by
  intro m hm;unfold S.zeros at hm ⊢;omega
 have hZ64:S.zeros l.length < 64:=by unfold S.zeros; omega
 have HZ:=Hd hZ;clear hZ;go_wp2_with fail
 go_loopg [5] (S.zeros l.length) (fun k v wr=>∃ (m:Nat) (base:Option Addr) (c:Nat),m ≤ S.zeros l.length ∧ k = S.zeros l.length - m ∧ v = .slice base (l.length + (m + 1)) c ∧ Hid (GrownS w2 w.heap.size cap l wr v (0x80 :: List.replicate m 0)))
 case atStart=>exact ⟨0,base1,c1,Nat.zero_le _,rfl,rfl,HG1⟩
 case round =>
  obtain ⟨m,base,c,hm,rfl,rfl,G⟩:=hrel
  by_cases hmz:m = S.zeros l.length
  ·have hcond:((l.length:Int) + ((m:Int) + 1)) % 64 = 56:=by have:=(HZ.out m hm).2 hmz; omega
   go_wp2_with fail;clear hcond;subst hmz;generalize (((l.length:Int) + (((S.zeros l.length:Nat):Int) + 1)) % 64 != 56) = bb
   go_loopg [5,22] 8 (fun k v i wr=>∃ (j:Nat) (base:Option Addr) (c:Nat),j ≤ 8 ∧ k = 8 - j ∧ i = .int .i64 (j:Int) ∧ v = .slice base (l.length + (S.zeros l.length + 1 + j)) c ∧ Hid (GrownS w2 w.heap.size cap l wr v (tkS (S.zeros l.length) (size * 8) j)))
   case atStart =>
    refine ⟨0,base,c,by omega,rfl,rfl,rfl,Hd ?_⟩;rw [YG];exact G.out
   case round =>
    obtain ⟨j,base,c,hj,rfl,rfl,rfl,G⟩:=hrel
    by_cases hj8:j < 8
    ·obtain rfl | rfl | rfl | rfl | rfl | rfl | rfl | rfl:j = 0 ∨ j = 1 ∨ j = 2 ∨ j = 3 ∨ j = 4 ∨ j = 5 ∨ j = 6 ∨ j = 7:=by omega
     ·have hby:vbS (UInt8.ofNat (size * 8 / 256 ^ (7 - 0) % 256)) = .int .u8 ((size:Int) * 8 / 72057594037927936 % 256):=by
       rw [gU _ (by omega)]; congr 1
      have STEP:=Hd (iR (S.zeros l.length) (size * 8) 0 (by omega));have LEN:=Hd (bS (S.zeros l.length) (size * 8) 1 (by omega))
      go_wp2_with (at_builtin; refine cF _ rfl _ _ rfl hc rfl (G.out.alloc hc _) ⟨wr.heap.size,0,none⟩ 1 (UInt8.ofNat (size * 8 / 256 ^ (7 - 0) % 256)) rfl ?c1 ?c2 ?_)
      case c1=>rw [hby]; simp <;> omega
      case c2=>have:=bS (S.zeros l.length) (size * 8) 0 (by omega); omega
      intro v' w' G';rw [STEP.out] at G';obtain ⟨base', c', rfl⟩:=G'.shape;rw [LEN.out] at G';rw [LEN.out];go_wp2_with fail
      go_roundg (8 - (0 + 1))
      case measure=>omega
      case rel=>exact ⟨0 + 1,base', c', by omega,rfl,rfl,rfl,Hd G'⟩
     ·have hby:vbS (UInt8.ofNat (size * 8 / 256 ^ (7 - 1) % 256)) = .int .u8 ((size:Int) * 8 / 281474976710656 % 256):=by
       rw [gU _ (by omega)]; congr 1
      have STEP:=Hd (iR (S.zeros l.length) (size * 8) 1 (by omega));have LEN:=Hd (bS (S.zeros l.length) (size * 8) 2 (by omega))
      go_wp2_with (at_builtin; refine cF _ rfl _ _ rfl hc rfl (G.out.alloc hc _) ⟨wr.heap.size,0,none⟩ 1 (UInt8.ofNat (size * 8 / 256 ^ (7 - 1) % 256)) rfl ?c1 ?c2 ?_)
      case c1=>rw [hby]; simp <;> omega
      case c2=>have:=bS (S.zeros l.length) (size * 8) 1 (by omega); omega
      intro v' w' G';rw [STEP.out] at G';obtain ⟨base', c', rfl⟩:=G'.shape;rw [LEN.out] at G';rw [LEN.out];go_wp2_with fail
      go_roundg (8 - (1 + 1))
      case measure=>omega
      case rel=>exact ⟨1 + 1,base', c', by omega,rfl,rfl,rfl,Hd G'⟩
     ·have hby:vbS (UInt8.ofNat (size * 8 / 256 ^ (7 - 2) % 256)) = .int .u8 ((size:Int) * 8 / 1099511627776 % 256):=by
       rw [gU _ (by omega)]; congr 1
      have STEP:=Hd (iR (S.zeros l.length) (size * 8) 2 (by omega));have LEN:=Hd (bS (S.zeros l.length) (size * 8) 3 (by omega))
      go_wp2_with (at_builtin; refine cF _ rfl _ _ rfl hc rfl (G.out.alloc hc _) ⟨wr.heap.size,0,none⟩ 1 (UInt8.ofNat (size * 8 / 256 ^ (7 - 2) % 256)) rfl ?c1 ?c2 ?_)
      case c1=>rw [hby]; simp <;> omega
      case c2=>have:=bS (S.zeros l.length) (size * 8) 2 (by omega); omega
      intro v' w' G';rw [STEP.out] at G';obtain ⟨base', c', rfl⟩:=G'.shape;rw [LEN.out] at G';rw [LEN.out];go_wp2_with fail
      go_roundg (8 - (2 + 1))
      case measure=>omega
      case rel=>exact ⟨2 + 1,base', c', by omega,rfl,rfl,rfl,Hd G'⟩
     ·have hby:vbS (UInt8.ofNat (size * 8 / 256 ^ (7 - 3) % 256)) = .int .u8 ((size:Int) * 8 / 4294967296 % 256):=by
       rw [gU _ (by omega)]; congr 1
      have STEP:=Hd (iR (S.zeros l.length) (size * 8) 3 (by omega));have LEN:=Hd (bS (S.zeros l.length) (size * 8) 4 (by omega))
      go_wp2_with (at_builtin; refine cF _ rfl _ _ rfl hc rfl (G.out.alloc hc _) ⟨wr.heap.size,0,none⟩ 1 (UInt8.ofNat (size * 8 / 256 ^ (7 - 3) % 256)) rfl ?c1 ?c2 ?_)
      case c1=>rw [hby]; simp <;> omega
      case c2=>have:=bS (S.zeros l.length) (size * 8) 3 (by omega); omega
      intro v' w' G';rw [STEP.out] at G';obtain ⟨base', c', rfl⟩:=G'.shape;rw [LEN.out] at G';rw [LEN.out];go_wp2_with fail
      go_roundg (8 - (3 + 1))
      case measure=>omega
      case rel=>exact ⟨3 + 1,base', c', by omega,rfl,rfl,rfl,Hd G'⟩
     ·have hby:vbS (UInt8.ofNat (size * 8 / 256 ^ (7 - 4) % 256)) = .int .u8 ((size:Int) * 8 / 16777216 % 256):=by
       rw [gU _ (by omega)]; congr 1
      have STEP:=Hd (iR (S.zeros l.length) (size * 8) 4 (by omega));have LEN:=Hd (bS (S.zeros l.length) (size * 8) 5 (by omega))
      go_wp2_with (at_builtin; refine cF _ rfl _ _ rfl hc rfl (G.out.alloc hc _) ⟨wr.heap.size,0,none⟩ 1 (UInt8.ofNat (size * 8 / 256 ^ (7 - 4) % 256)) rfl ?c1 ?c2 ?_)
      case c1=>rw [hby]; simp <;> omega
      case c2=>have:=bS (S.zeros l.length) (size * 8) 4 (by omega); omega
      intro v' w' G';rw [STEP.out] at G';obtain ⟨base', c', rfl⟩:=G'.shape;rw [LEN.out] at G';rw [LEN.out];go_wp2_with fail
      go_roundg (8 - (4 + 1))
      case measure=>omega
      case rel=>exact ⟨4 + 1,base', c', by omega,rfl,rfl,rfl,Hd G'⟩
     ·have hby:vbS (UInt8.ofNat (size * 8 / 256 ^ (7 - 5) % 256)) = .int .u8 ((size:Int) * 8 / 65536 % 256):=by
       rw [gU _ (by omega)]; congr 1
      have STEP:=Hd (iR (S.zeros l.length) (size * 8) 5 (by omega));have LEN:=Hd (bS (S.zeros l.length) (size * 8) 6 (by omega))
      go_wp2_with (at_builtin; refine cF _ rfl _ _ rfl hc rfl (G.out.alloc hc _) ⟨wr.heap.size,0,none⟩ 1 (UInt8.ofNat (size * 8 / 256 ^ (7 - 5) % 256)) rfl ?c1 ?c2 ?_)
      case c1=>rw [hby]; simp <;> omega
      case c2=>have:=bS (S.zeros l.length) (size * 8) 5 (by omega); omega
      intro v' w' G';rw [STEP.out] at G';obtain ⟨base', c', rfl⟩:=G'.shape;rw [LEN.out] at G';rw [LEN.out];go_wp2_with fail
      go_roundg (8 - (5 + 1))
      case measure=>omega
      case rel=>exact ⟨5 + 1,base', c', by omega,rfl,rfl,rfl,Hd G'⟩
     ·have hby:vbS (UInt8.ofNat (size * 8 / 256 ^ (7 - 6) % 256)) = .int .u8 ((size:Int) * 8 / 256 % 256):=by
       rw [gU _ (by omega)]; congr 1
      have STEP:=Hd (iR (S.zeros l.length) (size * 8) 6 (by omega));have LEN:=Hd (bS (S.zeros l.length) (size * 8) 7 (by omega))
      go_wp2_with (at_builtin; refine cF _ rfl _ _ rfl hc rfl (G.out.alloc hc _) ⟨wr.heap.size,0,none⟩ 1 (UInt8.ofNat (size * 8 / 256 ^ (7 - 6) % 256)) rfl ?c1 ?c2 ?_)
      case c1=>rw [hby]; simp <;> omega
      case c2=>have:=bS (S.zeros l.length) (size * 8) 6 (by omega); omega
      intro v' w' G';rw [STEP.out] at G';obtain ⟨base', c', rfl⟩:=G'.shape;rw [LEN.out] at G';rw [LEN.out];go_wp2_with fail
      go_roundg (8 - (6 + 1))
      case measure=>omega
      case rel=>exact ⟨6 + 1,base', c', by omega,rfl,rfl,rfl,Hd G'⟩
     ·have hby:vbS (UInt8.ofNat (size * 8 % 256)) = .int .u8 ((size:Int) * 8 % 256):=by
       rw [gU _ (by omega)]; congr 1
      have STEP:=Hd (by have:=iR (S.zeros l.length) (size * 8) 7 (by omega); simpa using this:tkS (S.zeros l.length) (size * 8) 7 ++ [UInt8.ofNat (size * 8 % 256)] = tkS (S.zeros l.length) (size * 8) 8);have LEN:=Hd (bS (S.zeros l.length) (size * 8) 8 (by omega))
      go_wp2_with (at_builtin; refine cF _ rfl _ _ rfl hc rfl (G.out.alloc hc _) ⟨wr.heap.size,0,none⟩ 1 (UInt8.ofNat (size * 8 % 256)) rfl ?c1 ?c2 ?_)
      case c1=>rw [hby]; simp <;> omega
      case c2=>have:=bS (S.zeros l.length) (size * 8) 7 (by omega); omega
      intro v' w' G';rw [STEP.out] at G';obtain ⟨base', c', rfl⟩:=G'.shape;rw [LEN.out] at G';rw [LEN.out];go_wp2_with fail
      go_roundg (8 - (7 + 1))
      case measure=>omega
      case rel=>exact ⟨7 + 1,base', c', by omega,rfl,rfl,rfl,Hd G'⟩
    ·obtain rfl:j = 8:=by omega
     have hcv2:=G.out.conv hc hmax (by rw [bS _ _ _ (by omega)]; omega);rw [YI] at hcv2;go_wp2_with fail;go_ret;exact ⟨rfl,bw.trans ((G.out.below (Nat.le_of_lt hlt)).mono (Nat.le_refl _))⟩
  ·have hcond:¬ (((l.length:Int) + ((m:Int) + 1)) % 64 = 56):=by
    intro h;exact hmz ((HZ.out m hm).1 (by omega))
   go_wp2_with (at_builtin; refine cF _ rfl _ _ rfl hc rfl (G.out.alloc hc _) ⟨wr.heap.size,0,none⟩ 1 0 rfl ?c1 ?c2 ?_)
   case c1=>simp [vbS]
   case c2=>simp; omega
   intro v' w' G';obtain ⟨base', c', rfl⟩:=G'.shape;go_wp2_with fail
   go_roundg (S.zeros l.length - (m + 1))
   case measure=>omega
   case rel =>
    refine ⟨m + 1,base', c', by omega,rfl,by simp,Hd ?_⟩;rw [← List.replicate_succ'] at G'
    simpa using G'
def SB (p:List UInt8) (n:Nat):List Nat:=(S.blocks p n).list
theorem eS (p:List UInt8) (n:Nat):(SB p n).length = 8:=rfl
theorem wE (p:List UInt8) (n:Nat):(S.blocks p n).ok:=by
 cases n with
 | zero=>unfold S.blocks S.HS S.St.ok; decide
 | succ n=>exact S.plus_ok _ _
theorem aES (p:List UInt8) (n:Nat):∀ x ∈ SB p n,x < 4294967296:=by
 have h:=wE p n;obtain ⟨a,b,c,d,e,f,g,i⟩:=h;intro x hx;simp only [SB,S.St.list,List.mem_cons,List.not_mem_nil,or_false] at hx
 rcases hx with rfl | rfl | rfl | rfl | rfl | rfl | rfl | rfl <;> assumption
theorem yO (p:List UInt8) (n:Nat) (b:ByteArray) (gk:Nat) (w:World) (h:b.data.toList = (p.drop (64 * n)).take 64) (hb:b.size = 64) (hk:Arr 224 w gk S.KS) :
  Calls Tryz.prog 154 #[.agg (U (SB p n)),.pointer (some ⟨gk,0,none⟩),.string b] w fun e w' => e = .returned (.agg (U (SB p (n + 1)))) ∧ Below w.heap.size w w' := by
 have:=RN (S.blocks p n) b gk w hb hk (wE p n);rw [h] at this;exact this
structure Two (w:World) (g:Nat) (L:List Nat) (w0:World):Prop where
 st:Arr 221 w g L
 ks:Arr 224 w (g + 1) S.KS
 below:Below w0.heap.size w0 w
 ge:w0.heap.size ≤ g
theorem Two.lt {w:World} {g:Nat} {L:List Nat} {w0:World} (h:Two w g L w0):g + 1 < w.heap.size:=h.ks.lt
theorem Two.drew {w:World} {g:Nat} {L:List Nat} {w0:World} (h:Two w g L w0):Two w.drew g L w0:=⟨h.st,h.ks,h.below.drew,h.ge⟩
theorem Two.then {w w' : World} {g:Nat} {L:List Nat} {w0:World} (h:Two w g L w0) (hb:Below w.heap.size w w'):Two w' g L w0:=⟨h.st.below hb,h.ks.below hb,h.below.trans (hb.mono h.below.size),h.ge⟩
theorem Two.alloc {w:World} {g:Nat} {L:List Nat} {w0:World} (h:Two w g L w0) (o:Obj):Two (w.alloc o) g L w0:=⟨h.st.alloc o,h.ks.alloc o,h.below.alloc h.below.size o,h.ge⟩
theorem Two.row {w:World} {g:Nat} {L:List Nat} {w0:World} (h:Two w g L w0) (m:List Nat):Two (w.setRow g (U m)) g m w0:=⟨h.st.row m,h.ks.otherRow _ _ (by omega),below_setRow h.below h.ge _,h.ge⟩
theorem Two.load {w:World} {g:Nat} {L:List Nat} {w0:World} (h:Two w g L w0) (hl:L.length = 8):(loadVar 221 ⟨g,0,none⟩).run Tryz.prog w = .ok (.agg (U L)) w :=
 run_loadVar_row w g 221 221 (U L) (0,0) _ h.st Tryz.underlying221 rfl (by rw [bQ,hl]; exact gB)
theorem jM {P:Program} {ops:Array Oper} {w:World} {Q:Act → Prop} {rest:List Oper} {o:Oper} {a:Act} (hgd:o.guard = none) (ty:TypeId) (x:Operand) (ho:o.op = .load ty x)
  (g:Nat) (hx:a.eval x = .pointer (some ⟨g,0,none⟩)) (cs:Array Value) (hld:(loadVar ty ⟨g,0,none⟩).run P w = .ok (.agg cs) w)
  (h:wpStill P ops w Q rest (a.put o.dst (.agg cs))):wpStill P ops w Q (o :: rest) a:=by
 unfold wpStill;rw [if_pos (by simp [Region.wanted,hgd])];unfold Oper.still execOp;simp only [ho,hx,Instr.loadAt,Instr.sureAddr,Sem.run_bind,Sem.run_pure,Result.andThen_ok,hld];exact ⟨rfl,h⟩
theorem wD (s:ByteArray) (l:List UInt8) (hl:s.data.toList = l) (n:Nat) (hn:n < l.length / 64):(s.extract (n * 64) ((n + 1) * 64)).data.toList = (l.drop (64 * n)).take 64:=by
 rw [ByteArray.data_extract,Array.toList_extract,List.extract_eq_take_drop,hl,Nat.mul_comm n 64]
 congr 1
 omega
theorem xA (l:List UInt8) (n:Nat) (hn:n < l.length / 64):((S.padded l).drop (64 * n)).take 64 = (l.drop (64 * n)).take 64:=by
 unfold S.padded;rw [List.drop_append_of_le_length (by simp; omega),List.take_append_of_le_length (by simp; omega),List.drop_take,List.take_take]
 congr 1
 omega
theorem aBC (F:List Nat):∀ (q r:Nat),r < 4 → (hq:q < F.length) → ((F.map (M.be 4)).flatten)[4 * q + r]? = some (UInt8.ofNat (F[q] / 256 ^ (3 - r) % 256)):=by
 induction F with
 | nil=>intro q r _ hq; simp at hq
 | cons a F ih =>
  intro q r hr hq;rw [List.map_cons,List.flatten_cons]
  cases q with
  | zero =>
   rw [List.getElem?_append_left (by rw [M.be_length]; omega),Nat.mul_zero,Nat.zero_add,M.be_get 4 a r hr]
   rfl
  | succ q =>
   rw [List.getElem?_append_right (by rw [M.be_length]; omega),M.be_length,show 4 * (q + 1) + r - 4 = 4 * q + r by omega,ih q r hr (by simpa using hq)]
   rfl
theorem uD (F:List Nat):((F.map (M.be 4)).flatten).length = 4 * F.length:=by
 induction F with
 | nil=>rfl
 | cons a F ih=>rw [List.map_cons,List.flatten_cons,List.length_append,ih,M.be_length,List.length_cons]; omega
def ByS (l:List UInt8):Array Value:=(l.map vbS).toArray
def BytS (T:TypeId) (w:World) (g:Nat) (l:List UInt8):Prop:=w.heap[g]? = some (.cells (ByS l) T (0,0))
theorem BytS.cell {T:TypeId} {w:World} {g:Nat} {l:List UInt8} (h:BytS T w g l) (j:Nat) (hj:j < l.length):w.cell? ⟨g,j,none⟩ = some (vbS l[j]):=by
 rw [cell_of_row w g j _ T _ h];simp [ByS,List.getElem?_eq_getElem hj]
theorem BytS.free {T:TypeId} {w:World} {g:Nat} {l:List UInt8} (h:BytS T w g l) (j:Nat):w.frozen? ⟨g,j,none⟩ = false:=frozen_of_row w g j _ T h
theorem BytS.set {T:TypeId} {w:World} {g:Nat} {l:List UInt8} (h:BytS T w g l) (j:Nat) (v:UInt8):BytS T (w.setCell ⟨g,j,none⟩ (vbS v)) g (l.set j v):=by
 unfold BytS;rw [hss w g j _ T _ h]
 congr 2
 apply Array.ext';simp [ByS,List.map_set]
theorem Two.set {w:World} {g:Nat} {L:List Nat} {w0:World} (h:Two w g L w0) (k j:Nat) (v:Value) (hk:g + 1 < k):Two (w.setCell ⟨k,j,none⟩ v) g L w0 :=
 ⟨h.st.other _ _ (by simp; omega),h.ks.other _ _ (by simp; omega),h.below.setCell (by have:=h.ge; simp; omega) _,h.ge⟩
def nO (L:List UInt8) (n:Nat):List UInt8:=L.take n ++ List.replicate (32 - n) 0
theorem zU (L:List UInt8) (hL:L.length = 32) (n:Nat) (hn:n ≤ 32):(nO L n).length = 32:=by
 unfold nO; simp; omega
theorem oM (L:List UInt8) (hL:L.length = 32) (n:Nat) (hn:n < 32) (b:UInt8) (hb:L[n]? = some b):(nO L n).set n b = nO L (n + 1):=by
 unfold nO;rw [List.set_append_right _ _ (by rw [List.length_take]; omega),List.take_add_one,hb];have e1:n - (L.take n).length = 0:=by simp; omega
 rw [e1,show 32 - n = (32 - (n + 1)) + 1 by omega,List.replicate_succ,List.set_cons_zero];simp
theorem TO (L:List UInt8) (hL:L.length = 32):nO L 32 = L:=by
 unfold nO; simp [List.take_of_length_le (Nat.le_of_eq hL)]
theorem MP (s:ByteArray) (l:List UInt8) (hl:s.data.toList = l):(s.extract (l.length / 64 * 64) l.length).data.toList = l.drop (l.length / 64 * 64):=by
 rw [ByteArray.data_extract,Array.toList_extract,List.extract_eq_take_drop,hl];rw [List.take_of_length_le (by simp)]
theorem MO (l E:List UInt8) (hE:S.tail (l.drop (l.length / 64 * 64)) l.length = E):E.length % 64 = 0 ∧ E.length ≤ 128 ∧ (S.padded l).length / 64 = l.length / 64 + E.length / 64:=by
 have h1:(S.padded l).length = l.length / 64 * 64 + E.length:=by
  unfold S.padded;rw [hE,List.length_append,List.length_take];omega
 have h2:E.length = l.length % 64 + 1 + S.zeros (l.length % 64) + 8:=by
  rw [← hE];unfold S.tail;simp only [List.length_append,List.length_drop,List.length_cons,List.length_nil,List.length_replicate,M.be_length];rw [show l.length - l.length / 64 * 64 = l.length % 64 by omega]
 unfold S.zeros at h2;omega
theorem QF (l E:List UInt8) (hE:S.tail (l.drop (l.length / 64 * 64)) l.length = E) (n:Nat):((S.padded l).drop (64 * (l.length / 64 + n))).take 64 = (E.drop (64 * n)).take 64:=by
 unfold S.padded;rw [hE,List.drop_append,List.drop_of_length_le (by rw [List.length_take]; omega),List.nil_append,List.length_take]
 congr 2
 omega
theorem SK (s:ByteArray) (l:List UInt8) (hl:s.data.toList = l) (hz:s.size ≤ 140737488355328) (w:World) (L:List UInt8) (HL:Hid (S.sum l = L)) :
  Calls Tryz.prog 130 #[.string s] w fun e w' => e = .returned (.string (Str L)) ∧ Below w.heap.size w w' := by
 have hsz:s.size = l.length:=by rw [← hl]; simp
 go_enter Tryz.func130,Tryz.ntmps130;go_wp2_with fail;refine (PY _).mono ?_;rintro e w1 ⟨rfl,b1⟩;go_wp2_with fail;refine (MQ _).mono ?_;rintro e w2 ⟨rfl,b2⟩;have bb:Below w.heap.size w w2:=b1.trans (b2.mono b1.size);have hA:Hid (Arr 221 ((w2.alloc (.cells (U bD) 221)).alloc (.cells (U (bZ [])) 224)) w2.heap.size bD):=Hd ((Arr.new w2 bD).alloc _)
 have hB:Hid (Arr 224 ((w2.alloc (.cells (U bD) 221)).alloc (.cells (U (bZ [])) 224)) (w2.heap.size + 1) (bZ [])):=Hd (by
  have:=Arr.new (T:=224) (w2.alloc (.cells (U bD) 221)) (bZ []);rwa [show (w2.alloc (.cells (U bD) 221)).heap.size = w2.heap.size + 1 by simp] at this)
 have ins:Hid ((Tryz.prog.info? 221).map (·.size) = some (U S.HS.list).size):=Hd (by rw [bQ]; kernel_rfl);have ols:Hid ((U bD).size = (U S.HS.list).size):=Hd (by rw [bQ,bQ]; rfl);have ons:Hid ((U S.HS.list).all (·.oneCell') = true):=Hd (nD _);have hB2:Hid (Arr 224 (((w2.alloc (.cells (U bD) 221)).alloc (.cells (U (bZ [])) 224)).setRow w2.heap.size (U S.HS.list)) (w2.heap.size + 1) (bZ [])):=Hd (hB.out.otherRow _ _ (by omega));have ink:Hid ((Tryz.prog.info? 224).map (·.size) = some (U S.KS).size):=Hd (by rw [bQ]; kernel_rfl)
 have olk:Hid ((U (bZ [])).size = (U S.KS).size):=Hd (by rw [bQ,bQ]; rfl);have onk:Hid ((U S.KS).all (·.oneCell') = true):=Hd (nD _)
 go_upto_region 1 with (first | refine wpList_store_row rfl 224 (.tmp 4) (.tmp 12) rfl (w2.heap.size + 1) (U S.KS) rfl rfl 224 (U (bZ [])) hB2.out ink.out olk.out onk.out ?_ | refine wpList_store_row rfl 221 (.tmp 3) (.tmp 11) rfl w2.heap.size (U S.HS.list) rfl rfl 221 (U bD) hA.out ins.out ols.out ons.out ?_)
 generalize hw3:World.setRow _ _ _ = w3
 have HT:Hid (Two w3 w2.heap.size (SB (S.padded l) 0) w):=Hd (by
  rw [← hw3];exact ⟨(hA.out.row S.HS.list).otherRow _ _ (by omega),hB2.out.row S.KS,below_setRow (below_setRow ((bb.alloc bb.size _).alloc (by have:=bb.size; simp; omega) _) bb.size _) (by have:=bb.size; omega) _,bb.size⟩)
 clear hA hB ins ols ons hB2 ink olk onk hw3 b1 b2 bb;generalize w2.heap.size = g at *
 go_loopw [17] (fun i wr=>∃ n:Nat,n ≤ l.length / 64 ∧ i = .int .i64 (n:Int) ∧ Hid (Two wr g (SB (S.padded l) n) w)) (fun i _=>l.length / 64 + 1 - (intOf i).toNat)
 case atStart=>exact ⟨0,by omega,rfl,HT⟩
 case round =>
  obtain ⟨n,hn,rfl,HY⟩:=hrel
  by_cases hlt:n < l.length / 64
  ·have hli:(n:Int) < (s.size:Int) / 64:=by omega
   have hld:=HY.out.drew.load (eS _ _);go_wp2_with fail;have k1:IntKind.i64.wrap ((n:Int) * 64) = (n:Int) * 64:=by rw [IntKind.wrap_i64]; omega
   have k2:IntKind.i64.wrap ((n:Int) + 1) = (n:Int) + 1:=by rw [IntKind.wrap_i64]; omega
   have k3:IntKind.i64.wrap (((n:Int) + 1) * 64) = ((n:Int) + 1) * 64:=by rw [IntKind.wrap_i64]; omega
   have k4:0 ≤ ((n:Int) + 1) * 64 ∧ ((n:Int) + 1) * 64 ≤ (l.length:Int):=by omega
   have k5:0 ≤ (n:Int) * 64 ∧ (n:Int) * 64 ≤ ((n:Int) + 1) * 64:=by omega
   have k6:((n:Int) * 64).toNat = n * 64:=by omega
   have k7:(((n:Int) + 1) * 64).toNat = (n + 1) * 64:=by omega
   have k8:(n:Int) ≤ (n:Int) + 1:=by omega
   refine wp_region_still_tail 8 (by kernel_rfl) (by kernel_rfl) ?_;simp only [List.take_succ_cons,List.take_zero,List.drop_succ_cons,List.drop_zero];refine jM rfl 221 (.tmp 3) rfl g rfl _ hld ?_
   still_step
   still_step
   still_step
   still_step
   still_step
   still_step
   still_step
   clear k1 k2 k3 k4 k5 k6 k7 k8;refine wpStill_nil ?_;have hcb:=wD s l hl n hlt;have hcz:(s.extract (n * 64) ((n + 1) * 64)).size = 64:=by rw [ByteArray.size_extract]; omega
   generalize s.extract (n * 64) ((n + 1) * 64) = blk at *;change wpList _ _ _ _ _ wr.drew;go_wp2_with fail;refine (yO (S.padded l) n blk (g + 1) _ (by rw [hcb,xA l n hlt]) hcz HY.out.drew.ks).mono ?_;rintro e w4 ⟨rfl,b4⟩;have HY4:=Hd (HY.out.drew.then b4);have FIN:=Hd (HY4.out.row (SB (S.padded l) (n + 1)));have in8:Hid ((Tryz.prog.info? 221).map (·.size) = some (U (SB (S.padded l) (n + 1))).size):=Hd (by rw [bQ,eS]; exact gB)
   have ol8:Hid ((U (SB (S.padded l) n)).size = (U (SB (S.padded l) (n + 1))).size):=Hd (by rw [bQ,bQ,eS,eS]);have on8:Hid ((U (SB (S.padded l) (n + 1))).all (·.oneCell') = true):=Hd (nD _);clear hld hcb hcz HY
   go_wp2_with (refine wpList_store_row rfl 221 (.tmp 3) (.tmp 28) rfl g (U (SB (S.padded l) (n + 1))) rfl rfl 221 (U (SB (S.padded l) n)) HY4.out.st in8.out ol8.out on8.out ?_)
   go_roundw
   case rel=>exact ⟨n + 1,by omega,by go_num,FIN⟩
   case measure=>simp [intOf]; omega
  ·obtain rfl:n = l.length / 64:=by omega
   have hli:¬ (((l.length / 64:Nat):Int) < (l.length:Int) / 64):=by omega
   have htl:=MP s l hl;generalize hE:S.tail (l.drop (l.length / 64 * 64)) l.length = E at *;have hEl:Hid (E.length % 64 = 0 ∧ E.length ≤ 128 ∧ (S.padded l).length / 64 = l.length / 64 + E.length / 64):=Hd (MO l E hE);have hEb:=Hd (QF l E hE);go_wp2_with fail;refine (MN _ (l.drop (l.length / 64 * 64)) htl l.length (by rw [List.length_drop]; omega) (by omega) _).mono ?_;rw [hE];obtain ⟨eb,heb⟩:∃ eb,Str E = eb:=⟨_,rfl⟩
   rw [heb];have hed:Hid (eb.data.toList = E):=Hd (by rw [← heb,aO]);have hez:Hid (eb.size = E.length):=Hd (by rw [← heb,bU]);clear heb htl hE hlt hli hn;rintro e w4 ⟨rfl,b4⟩;have HY4:=Hd (HY.out.then b4);clear HY b4;have hb128:(eb.size:Int) ≤ 128:=by have:=hez.out; have:=hEl.out.2.1; omega
   go_wp2_with fail
   go_loopw [40] (fun i wr=>∃ n:Nat,n ≤ E.length / 64 ∧ i = .int .i64 (n:Int) ∧ Hid (Two wr g (SB (S.padded l) (l.length / 64 + n)) w)) (fun i _=>E.length / 64 + 1 - (intOf i).toNat)
   case atStart=>exact ⟨0,by omega,rfl,HY4⟩
   case round =>
    obtain ⟨n,hn,rfl,HY⟩:=hrel
    by_cases hlt:n < E.length / 64
    ·have hli:(n:Int) < (eb.size:Int) / 64:=by rw [hez.out]; omega
     have hld:=HY.out.drew.load (eS _ _);go_wp2_with fail;have k1:IntKind.i64.wrap ((n:Int) * 64) = (n:Int) * 64:=by rw [IntKind.wrap_i64]; omega
     have k2:IntKind.i64.wrap ((n:Int) + 1) = (n:Int) + 1:=by rw [IntKind.wrap_i64]; omega
     have k3:IntKind.i64.wrap (((n:Int) + 1) * 64) = ((n:Int) + 1) * 64:=by rw [IntKind.wrap_i64]; omega
     have k4:0 ≤ ((n:Int) + 1) * 64 ∧ ((n:Int) + 1) * 64 ≤ (eb.size:Int):=by omega
     have k5:0 ≤ (n:Int) * 64 ∧ (n:Int) * 64 ≤ ((n:Int) + 1) * 64:=by omega
     have k6:((n:Int) * 64).toNat = n * 64:=by omega
     have k7:(((n:Int) + 1) * 64).toNat = (n + 1) * 64:=by omega
     have k8:(n:Int) ≤ (n:Int) + 1:=by omega
     refine wp_region_still_tail 8 (by kernel_rfl) (by kernel_rfl) ?_;simp only [List.take_succ_cons,List.take_zero,List.drop_succ_cons,List.drop_zero];refine jM rfl 221 (.tmp 3) rfl g rfl _ hld ?_
     still_step
     still_step
     still_step
     still_step
     still_step
     still_step
     still_step
     clear k1 k2 k3 k4 k5 k6 k7 k8;refine wpStill_nil ?_;have hcb:=wD eb E hed.out n hlt;have hcz:(eb.extract (n * 64) ((n + 1) * 64)).size = 64:=by rw [ByteArray.size_extract,hez.out]; omega
     generalize eb.extract (n * 64) ((n + 1) * 64) = blk at *;change wpList _ _ _ _ _ wr.drew;go_wp2_with fail;refine (yO (S.padded l) (l.length / 64 + n) blk (g + 1) _ (by rw [hcb,hEb.out n]) hcz HY.out.drew.ks).mono ?_;rintro e w5 ⟨rfl,b5⟩;have HY5:=Hd (HY.out.drew.then b5);have FIN:=Hd (HY5.out.row (SB (S.padded l) (l.length / 64 + n + 1)));have in8:Hid ((Tryz.prog.info? 221).map (·.size) = some (U (SB (S.padded l) (l.length / 64 + n + 1))).size):=Hd (by rw [bQ,eS]; exact gB)
     have ol8:Hid ((U (SB (S.padded l) (l.length / 64 + n))).size = (U (SB (S.padded l) (l.length / 64 + n + 1))).size):=Hd (by rw [bQ,bQ,eS,eS]);have on8:Hid ((U (SB (S.padded l) (l.length / 64 + n + 1))).all (·.oneCell') = true):=Hd (nD _);clear hld hcb hcz HY
     go_wp2_with (refine wpList_store_row rfl 221 (.tmp 3) (.tmp 51) rfl g (U (SB (S.padded l) (l.length / 64 + n + 1))) rfl rfl 221 (U (SB (S.padded l) (l.length / 64 + n))) HY5.out.st in8.out ol8.out on8.out ?_)
     go_roundw
     case rel=>exact ⟨n + 1,by omega,by go_num,FIN⟩
     case measure=>simp [intOf]; omega
    ·obtain rfl:n = E.length / 64:=by omega
     have hli:¬ (((E.length / 64:Nat):Int) < (eb.size:Int) / 64):=by rw [hez.out]; omega
     have HZ:Hid (Two wr g (SB (S.padded l) ((S.padded l).length / 64)) w):=Hd (by rw [hEl.out.2.2]; exact HY.out);clear HY HY4;have hF:Hid (∀ x ∈ SB (S.padded l) ((S.padded l).length / 64),x < 4294967296):=Hd (aES _ _);have hL2:Hid (((SB (S.padded l) ((S.padded l).length / 64)).map (M.be 4)).flatten = L):=Hd HL.out;have hF8:Hid ((SB (S.padded l) ((S.padded l).length / 64)).length = 8):=Hd (eS _ _);generalize SB (S.padded l) ((S.padded l).length / 64) = F at *;go_wp2_with fail;have hL32:L.length = 32:=by rw [← hL2.out,uD,hF8.out]
     generalize decide ((E.length:Int) / 64 < (eb.size:Int) / 64) = bq;have hk:=Hd HZ.out.lt;have HB:Hid (Two (wr.alloc (.cells (ByS (nO L 0)) 229)) g F w ∧ BytS 229 (wr.alloc (.cells (ByS (nO L 0)) 229)) wr.heap.size (nO L 0)):=Hd ⟨HZ.out.alloc _,han wr _⟩;generalize wr.heap.size = k at *
     go_loopw [53] (fun i wr=>∃ n:Nat,n ≤ 32 ∧ i = .int .i64 (n:Int) ∧ Hid (Two wr g F w ∧ BytS 229 wr k (nO L n))) (fun i _=>33 - (intOf i).toNat)
     case atStart=>exact ⟨0,by omega,rfl,HB⟩
     case round =>
      obtain ⟨n,hn,rfl,HY⟩:=hrel;clear HZ HB
      by_cases hlt:n < 32
      ·have hli:(n:Int) < 32:=by omega
       have hqL:n / 4 < F.length:=by rw [hF8.out]; omega
       have hg:∀ r,r < 4 → n % 4 = r → L[n]? = some (UInt8.ofNat (F[n / 4] / 256 ^ (3 - r) % 256)):=fun r hr e=>by
        have:=aBC F (n / 4) r hr hqL;rw [hL2.out,show 4 * (n / 4) + r = n by omega] at this;exact this
       have hx:=hF.out F[n / 4] (List.getElem_mem hqL);have c3:=HY.out.1.st.cell (n / 4) hqL;obtain ⟨ov,c9⟩:∃ ov,wr.cell? ⟨k,n,none⟩ = some ov:=⟨_,HY.out.2.cell n (by rw [zU L hL32 n hn]; omega)⟩
       have f9:=HY.out.2.free n;generalize F[n / 4] = x at *;have hq:(n:Int) / 4 = ((n / 4:Nat):Int):=by omega
       have hq8:((n / 4:Nat):Int) < 8:=by omega
       generalize n / 4 = q at *
       rcases (by omega:n % 4 = 0 ∨ n % 4 = 1 ∨ n % 4 = 2 ∨ n % 4 = 3) with hr | hr | hr | hr
       ·have hri:(n:Int) % 4 = 0:=by omega
        have hgr:=hg 0 (by omega) hr
        have hby:vbS (UInt8.ofNat (x / 256 ^ (3 - 0) % 256)) = .int .u8 ((x:Int) / 16777216):=by
         rw [gU _ (by omega)]; congr 1; omega
        generalize UInt8.ofNat (x / 256 ^ (3 - 0) % 256) = bv at *
        have FIN:Hid (Two (wr.setCell ⟨k,n,none⟩ (vbS bv)) g F w ∧ BytS 229 (wr.setCell ⟨k,n,none⟩ (vbS bv)) k (nO L (n + 1))):=Hd ⟨HY.out.1.set k n _ hk.out,by
         have:=HY.out.2.set n bv;rwa [oM L hL32 n hlt bv hgr] at this⟩
        rw [hby] at FIN;clear hg hgr hby HY hr hlt hqL;go_wp2_with fail;go_roundw
        case rel=>exact ⟨n + 1,by omega,by go_num,FIN⟩
        case measure=>simp [intOf]; omega
       ·have hri:(n:Int) % 4 = 1:=by omega
        have hgr:=hg 1 (by omega) hr
        have hby:vbS (UInt8.ofNat (x / 256 ^ (3 - 1) % 256)) = .int .u8 ((x:Int) / 65536 % 256):=by
         rw [gU _ (by omega)]; congr 1
        generalize UInt8.ofNat (x / 256 ^ (3 - 1) % 256) = bv at *
        have FIN:Hid (Two (wr.setCell ⟨k,n,none⟩ (vbS bv)) g F w ∧ BytS 229 (wr.setCell ⟨k,n,none⟩ (vbS bv)) k (nO L (n + 1))):=Hd ⟨HY.out.1.set k n _ hk.out,by
         have:=HY.out.2.set n bv;rwa [oM L hL32 n hlt bv hgr] at this⟩
        rw [hby] at FIN;clear hg hgr hby HY hr hlt hqL;go_wp2_with fail;go_roundw
        case rel=>exact ⟨n + 1,by omega,by go_num,FIN⟩
        case measure=>simp [intOf]; omega
       ·have hri:(n:Int) % 4 = 2:=by omega
        have hgr:=hg 2 (by omega) hr
        have hby:vbS (UInt8.ofNat (x / 256 ^ (3 - 2) % 256)) = .int .u8 ((x:Int) / 256 % 256):=by
         rw [gU _ (by omega)]; congr 1
        generalize UInt8.ofNat (x / 256 ^ (3 - 2) % 256) = bv at *
        have FIN:Hid (Two (wr.setCell ⟨k,n,none⟩ (vbS bv)) g F w ∧ BytS 229 (wr.setCell ⟨k,n,none⟩ (vbS bv)) k (nO L (n + 1))):=Hd ⟨HY.out.1.set k n _ hk.out,by
         have:=HY.out.2.set n bv;rwa [oM L hL32 n hlt bv hgr] at this⟩
        rw [hby] at FIN;clear hg hgr hby HY hr hlt hqL;go_wp2_with fail;go_roundw
        case rel=>exact ⟨n + 1,by omega,by go_num,FIN⟩
        case measure=>simp [intOf]; omega
       ·have hri:(n:Int) % 4 = 3:=by omega
        have hgr:=hg 3 (by omega) hr
        have hby:vbS (UInt8.ofNat (x / 256 ^ (3 - 3) % 256)) = .int .u8 ((x:Int) % 256):=by
         rw [gU _ (by omega)]; congr 1; omega
        generalize UInt8.ofNat (x / 256 ^ (3 - 3) % 256) = bv at *
        have FIN:Hid (Two (wr.setCell ⟨k,n,none⟩ (vbS bv)) g F w ∧ BytS 229 (wr.setCell ⟨k,n,none⟩ (vbS bv)) k (nO L (n + 1))):=Hd ⟨HY.out.1.set k n _ hk.out,by
         have:=HY.out.2.set n bv;rwa [oM L hL32 n hlt bv hgr] at this⟩
        rw [hby] at FIN;clear hg hgr hby HY hr hlt hqL;go_wp2_with fail;go_roundw
        case rel=>exact ⟨n + 1,by omega,by go_num,FIN⟩
        case measure=>simp [intOf]; omega
      ·obtain rfl:n = 32:=by omega
       have hli:¬ (((32:Nat):Int) < 32):=by omega
       have hcv:(convert 31 9 (.slice (some ⟨k,0,none⟩) 32 32)).run Tryz.prog wr = .ok (.string (Str L)) wr:=by
        have:=run_convert_bytes_back (P:=Tryz.prog) wr 31 9 5 ⟨k,0,none⟩ 32 L Tryz.underlying31 Tryz.underlying5 Tryz.underlying9 (fun j hj=>by
         have h:=HY.out.2;rw [TO L hL32] at h;rw [dG]; simpa [vbS] using h.cell j hj)
        rw [hL32] at this;exact this
       go_wp2_with fail;go_ret;exact ⟨rfl,HY.out.1.below⟩
theorem YQ (s:ByteArray) (w:World) (hz:s.size ≤ 140737488355328) :
  Calls Tryz.prog 130 #[.string s] w fun e w' => e = .returned (.string (Str (S.sum s.data.toList))) ∧ Below w.heap.size w w' :=
 SK s _ rfl hz w _ (Hd rfl)
def wT (s:ByteArray):ByteArray:=Str (S.sum s.data.toList)
theorem EG (s:ByteArray) (w:World) (hz:s.size ≤ 140737488355328) :
  Calls Tryz.prog 130 #[.string s] w fun e w' => e = .returned (.string (wT s)) ∧ Below w.heap.size w w' := YQ s w hz
theorem uS (s:S.St):(S.digest s).length = 32:=by unfold S.digest; rw [uD]; rfl
theorem pP (s:ByteArray):(wT s).size = 32:=by
 unfold wT S.sum; rw [bU,uS]
theorem nI (a b:Nat) (ha:a < 256) (hb:b < 256):bits .xor .u8 (a:Int) (b:Int) = ((a ^^^ b:Nat):Int):=by
 have hx:a ^^^ b < 2 ^ 8:=Nat.xor_lt_two_pow (by omega) (by omega)
 have h8:∀ a:Nat,a < 256 → (BitVec.ofInt 8 (a:Int)).toNat = a:=fun a ha=>by
  rw [BitVec.ofInt_natCast,BitVec.toNat_ofNat]; exact Nat.mod_eq_of_lt (by omega)
 show IntKind.u8.wrap ((BitVec.ofInt 8 (a:Int) ^^^ BitVec.ofInt 8 (b:Int)).toNat:Int) = _
 rw [BitVec.toNat_xor,h8 a ha,h8 b hb,IntKind.wrap_u8];omega
def qV (l:List UInt8):List UInt8:=l ++ List.replicate (64 - l.length) 0
theorem oT (l:List UInt8) (h:l.length ≤ 64):(qV l).length = 64:=by unfold qV; simp; omega
def fB (l:List UInt8) (m:UInt8) (n:Nat):List UInt8:=(l.take n).map (· ^^^ m) ++ l.drop n
theorem jG (l:List UInt8) (m:UInt8) (n:Nat):(fB l m n).length = l.length:=by unfold fB; simp; omega
theorem yP (l:List UInt8) (m:UInt8):fB l m 0 = l:=by simp [fB]
theorem EA (l:List UInt8) (m:UInt8) (n:Nat) (h:l.length ≤ n):fB l m n = l.map (· ^^^ m):=by
 unfold fB; rw [List.take_of_length_le h,List.drop_of_length_le h,List.append_nil]
theorem DZ (l:List UInt8) (m:UInt8) (n:Nat) (h:n < l.length):(fB l m n)[n]? = some l[n]:=by
 unfold fB;rw [List.getElem?_append_right (by simp; omega)];simp [Nat.min_eq_left (Nat.le_of_lt h)]
theorem yQ (l:List UInt8) (m:UInt8) (n:Nat) (h:n < l.length):(fB l m n).set n (l[n] ^^^ m) = fB l m (n + 1):=by
 unfold fB;rw [List.set_append_right _ _ (by simp; omega)];have e:n - ((l.take n).map (· ^^^ m)).length = 0:=by simp; omega
 rw [e,List.drop_eq_getElem_cons h,List.set_cons_zero,List.take_succ_eq_append_getElem h,List.map_append,List.append_assoc]
 rfl
def sH (key:ByteArray) (m:UInt8):ByteArray:=Str ((qV key.data.toList).map (· ^^^ m))
theorem sG (key:ByteArray) (m:UInt8) (h:key.size ≤ 64):(sH key m).size = 64:=by
 unfold sH; rw [bU,List.length_map,oT _ (by simpa using h)]
theorem nH {P:Program} {w:World} {ops:Array Oper} {rest:List Oper} {o:Oper} {a:Act} {Q:Exit → Act → World → Prop} (hgd:o.guard = none) (d s:Operand) (dT sT:TypeId)
  (ho:o.op = .call { callee:=.builtin .copy,args:=#[d,s],argTypes:=#[dT,sT] }) (elem:TypeId) (hu:P.underlying dT = some (.slice elem)) (hsz:(P.info? elem).map (·.size) = some 1)
  (g off dLen dCap:Nat) (hd:a.eval d = .slice (some ⟨g,off,none⟩) dLen dCap) (t:ByteArray) (hs:a.eval s = .string t)
  (cur:Array Value) (T:TypeId) (hg:w.heap[g]? = some (.cells cur T (0,0))) (hle:t.size ≤ dLen) (hfit:off + t.size ≤ cur.size)
  (h:wpList P ops Q rest (a.put o.dst (goInt t.size)) (w.setRow g (cur.toList.take off ++ Lib.byteCells t.data.toList ++ cur.toList.drop (off + t.size)).toArray)):wpList P ops Q (o :: rest) a w:=by
 refine wpList_plain hgd fun K hK=>?_
 have hrun:=Lib.run_copy_row_string (P:=P) w dT sT o.type elem g off dLen dCap t cur T hu hsz hg hle hfit;unfold Oper.wp;simp [execOp,ho,resolve,invoke,builtin,hd,hs,hrun,Result.andThen];refine hK _ _ ?_
 simpa using h
theorem aDF (key:ByteArray) (hk:key.size ≤ 64):((ByS (List.replicate 64 0)).toList.take 0 ++ Lib.byteCells key.data.toList ++ (ByS (List.replicate 64 0)).toList.drop (0 + key.size)).toArray = ByS (qV key.data.toList):=by
 have hs:key.data.toList.length = key.size:=by simp
 apply Array.ext';simp only [ByS,qV,Lib.byteCells,List.take_zero,List.nil_append,Nat.zero_add,List.map_replicate,List.drop_replicate,List.map_append,hs]
 rfl
theorem wQ (p:Nat) (key:ByteArray) (m:UInt8) (w:World) (hp:p < w.heap.size) (hc:w.cell? ⟨p,0,none⟩ = some (.string key)) (hk:key.size ≤ 64) (L:List UInt8) (HL:Hid ((qV key.data.toList).map (· ^^^ m) = L)) :
  Calls Tryz.prog 151 #[.int .u8 (m.toNat:Int),.pointer (some ⟨p,0,none⟩)] w fun e w' => e = .returned (.string (Str L)) ∧ Below w.heap.size w w' := by
 go_enter Tryz.func151,Tryz.ntmps151;go_wp2_with fail;have HZ:Hid (BytS 219 (w.alloc (.cells (ByS (List.replicate 64 0)) 219)) w.heap.size (List.replicate 64 0)):=Hd (han w _);have HB0:Hid (Below w.heap.size w (w.alloc (.cells (ByS (List.replicate 64 0)) 219))):=Hd (Br.alloc (Nat.le_refl _) _);have hc2:(w.alloc (.cells (ByS (List.replicate 64 0)) 219)).cell? ⟨p,0,none⟩ = some (.string key):=(HB0.out.cell (p:=⟨p,0,none⟩) hp).trans hc;change Code.wp _ _ _ _ (w.alloc (.cells (ByS (List.replicate 64 0)) 219));generalize hg:w.heap.size = g at *
 generalize w.alloc (.cells (ByS (List.replicate 64 0)) 219) = w1 at *;refine wp_region_still_tail 2 (by kernel_rfl) (by kernel_rfl) ?_;simp only [List.take_succ_cons,List.take_zero,List.drop_succ_cons,List.drop_zero]
 still_step
 still_step
 refine wpStill_nil ?_;change wpList _ _ _ _ _ w1.drew;refine nH rfl (.tmp 6) (.tmp 7) 31 9 rfl 5 Tryz.underlying31 (by kernel_rfl) g 0 64 64 rfl key rfl (ByS (List.replicate 64 0)) 219 HZ.out hk (by simp [ByS]; exact hk) ?_;have HB1:=Hd (below_setRow HB0.out.drew (Nat.le_refl g) (((ByS (List.replicate 64 0)).toList.take 0 ++ Lib.byteCells key.data.toList ++ (ByS (List.replicate 64 0)).toList.drop (0 + key.size)).toArray))
 have HT:Hid (BytS 219 (w1.drew.setRow g (((ByS (List.replicate 64 0)).toList.take 0 ++ Lib.byteCells key.data.toList ++ (ByS (List.replicate 64 0)).toList.drop (0 + key.size)).toArray)) g (fB (qV key.data.toList) m 0)):=Hd (by
  have h:=setRow_heap w1.drew g _ (((ByS (List.replicate 64 0)).toList.take 0 ++ Lib.byteCells key.data.toList ++ (ByS (List.replicate 64 0)).toList.drop (0 + key.size)).toArray) _ (0,0) HZ.out;rw [yP];unfold BytS;rw [h,aDF key hk])
 generalize World.setRow _ _ _ = w2 at *;have hl64:=Hd (oT key.data.toList (by simpa using hk));clear HZ HB0 hc2 hc;go_wp2_with fail;generalize hKEY:qV key.data.toList = KEY at *;clear hKEY hk
 go_loopw [9] (fun i wr=>∃ n:Nat,n ≤ 64 ∧ i = .int .i64 (n:Int) ∧ Hid (BytS 219 wr g (fB KEY m n)) ∧ Hid (Below g w wr)) (fun i _=>65 - (intOf i).toNat)
 case atStart=>exact ⟨0,by omega,rfl,HT,HB1⟩
 case round =>
  obtain ⟨n,hn,rfl,HY,HB⟩:=hrel
  by_cases hlt:n < 64
  ·have hli:(n:Int) < 64:=by omega
   have hnk:n < KEY.length:=by rw [hl64.out]; exact hlt
   have hx:bits .xor .u8 (KEY[n].toNat:Int) (m.toNat:Int) = (((KEY[n] ^^^ m).toNat:Nat):Int):=by
    rw [nI _ _ KEY[n].toNat_lt m.toNat_lt]; rfl
   have c9:=HY.out.cell n (by rw [jG]; exact hnk)
   have hget:(fB KEY m n)[n]'(by rw [jG]; exact hnk) = KEY[n]:=by
    have:=DZ KEY m n hnk;rw [List.getElem?_eq_getElem (by rw [jG]; exact hnk)] at this;injection this
   rw [hget] at c9;have f9:=HY.out.free n
   have FIN:Hid (BytS 219 (wr.setCell ⟨g,n,none⟩ (.int .u8 (((KEY[n] ^^^ m).toNat:Nat):Int))) g (fB KEY m (n + 1))):=Hd (by
    have:=HY.out.set n (KEY[n] ^^^ m);rwa [yQ KEY m n hnk] at this)
   have FB:Hid (Below g w (wr.setCell ⟨g,n,none⟩ (.int .u8 (((KEY[n] ^^^ m).toNat:Nat):Int)))):=Hd (HB.out.setCell (Nat.le_refl _) _);generalize (KEY[n] ^^^ m).toNat = y at *;unfold vbS at c9;generalize KEY[n].toNat = x at *;clear hget HY HB;go_wp2_with fail;go_roundw
   case rel=>exact ⟨n + 1,by omega,by go_num,FIN,FB⟩
   case measure=>simp [intOf]; omega
  ·obtain rfl:n = 64:=by omega
   have hli:¬ (((64:Nat):Int) < 64):=by omega
   have hcv:(convert 31 9 (.slice (some ⟨g,0,none⟩) 64 64)).run Tryz.prog wr = .ok (.string (Str L)) wr:=by
    have h:=HY.out;rw [EA KEY m 64 (by rw [hl64.out]; exact Nat.le_refl _),HL.out] at h;have hL:L.length = 64:=by rw [← HL.out,List.length_map,hl64.out]
    have:=run_convert_bytes_back (P:=Tryz.prog) wr 31 9 5 ⟨g,0,none⟩ 64 L Tryz.underlying31 Tryz.underlying5 Tryz.underlying9 (fun j hj=>by
     rw [dG]; simpa [vbS] using h.cell j hj)
    rw [hL] at this;exact this
   go_wp2_with fail;go_ret;exact ⟨rfl,HB.out⟩
theorem qM (p:Nat) (key:ByteArray) (m:UInt8) (z:Int) (hz:(m.toNat:Int) = z) (w:World) (hp:p < w.heap.size) (hc:w.cell? ⟨p,0,none⟩ = some (.string key)) (hk:key.size ≤ 64) :
  Calls Tryz.prog 151 #[.int .u8 z,.pointer (some ⟨p,0,none⟩)] w fun e w' => e = .returned (.string (sH key m)) ∧ Below w.heap.size w w' := by
 subst hz;exact wQ p key m w hp hc hk _ (Hd rfl)
def lL (key:ByteArray):ByteArray:=if 64 < key.size then wT key else key
theorem mJ (key:ByteArray):(lL key).size ≤ 64:=by
 unfold lL
 split
 ·rw [pP]; decide
 ·omega
def aBV (p:Nat):Value:=.func (.func 151) #[] #[.pointer (some ⟨p,0,none⟩)]
theorem DY (key:ByteArray) (w:World) (hk:key.size ≤ 140737488351232) :
  Calls Tryz.prog 129 #[.string key] w fun e w' => ∃ p,e = .returned (aBV p) ∧ p < w'.heap.size ∧ w'.cell? ⟨p,0,none⟩ = some (.string (lL key)) ∧ Below w.heap.size w w' := by
 by_cases h64:64 < key.size
 ·have hl:64 < (key.size:Int):=by omega
  have HK:Hid (wT key = lL key):=Hd (by unfold lL; rw [if_pos h64]);go_enter Tryz.func129,Tryz.ntmps129;go_wp2_with fail;have hn:(w.alloc (.cells #[.string key] 9)).heap[w.heap.size]? = some (.cells #[.string key] 9 (0,0)):=han w _;have hb0:Below w.heap.size w (w.alloc (.cells #[.string key] 9)):=Br.alloc (Nat.le_refl _) _;have hlt:w.heap.size < (w.alloc (.cells #[.string key] 9)).heap.size:=by simp
  generalize w.alloc (.cells #[.string key] 9) = wa at *;refine (EG _ _ (by omega)).mono ?_;rw [HK.out];rintro e w1 ⟨rfl,b1⟩;have hn1:=(b1.block _ hlt).trans hn;have c1:=cell_of_row w1 w.heap.size 0 _ _ _ hn1;have f1:=frozen_of_row w1 w.heap.size 0 _ _ hn1;have FB:Hid (Below w.heap.size w (w1.setCell ⟨w.heap.size,0,none⟩ (.string (lL key)))):=Hd ((hb0.trans (b1.mono (Nat.le_of_lt hlt))).setCell (Nat.le_refl _) _);have hlt1:w.heap.size < w1.heap.size:=(zl hn1)
  have FC:Hid ((w1.setCell ⟨w.heap.size,0,none⟩ (.string (lL key))).cell? ⟨w.heap.size,0,none⟩ = some (.string (lL key))):=Hd (World.cell?_setCell_same _ _ _ c1);have FS:Hid (w.heap.size < (w1.setCell ⟨w.heap.size,0,none⟩ (.string (lL key))).heap.size):=Hd (by simpa [World.setCell] using hlt1);simp only [List.getElem?_toArray] at c1;clear HK;clear hn hn1 hb0 b1;go_wp2_with fail;go_ret;exact ⟨_,rfl,FS.out,FC.out,FB.out⟩
 ·have hl:(key.size:Int) ≤ 64:=by omega
  have HK:lL key = key:=by unfold lL; rw [if_neg h64]
  rw [HK];go_enter Tryz.func129,Tryz.ntmps129;go_wp2_with fail;go_ret;exact ⟨_,rfl,by simp,by rw [World.cell?_alloc_new]; rfl,Br.alloc (Nat.le_refl _) _⟩
def VE (key s:ByteArray):ByteArray:=wT (sH (lL key) 0x5c ++ wT (sH (lL key) 0x36 ++ s))
theorem vO (key s:ByteArray):(VE key s).size = 32:=pP _
theorem VD (key s ko ki si m:ByteArray) (w:World) (hk:key.size ≤ 140737488351232) (hs:s.size ≤ 140737488351232)
  (HO:Hid (sH (lL key) 0x5c = ko)) (HI:Hid (sH (lL key) 0x36 = ki)) (HS:Hid (wT (ki ++ s) = si)) (HM:Hid (wT (ko ++ si) = m)) (ho:ko.size = 64) (hi:ki.size = 64) (hsi:si.size = 32) :
  Calls Tryz.prog 108 #[.string key,.string s] w fun e w' => e = .returned (.string m) ∧ Below w.heap.size w w' := by
 go_enter Tryz.func108,Tryz.ntmps108;go_wp2_with fail;refine (DY _ _ hk).mono ?_;rintro e w1 ⟨p,rfl,hp,hc,bb⟩;have HC:=Hd hc;clear hc;unfold aBV;go_wp2_with fail;refine (qM p (lL key) 0x5c 92 rfl _ hp HC.out (mJ _)).mono ?_;rw [HO.out];rintro e w2 ⟨rfl,b2⟩;have HC2:=Hd ((b2.cell (p:=⟨p,0,none⟩) hp).trans HC.out);have hp2:=Nat.lt_of_lt_of_le hp b2.size
 replace bb:=chain bb b2
 clear b2;go_wp2_with fail;refine (qM p (lL key) 0x36 54 rfl _ hp2 HC2.out (mJ _)).mono ?_;rw [HI.out];rintro e w3 ⟨rfl,b3⟩
 replace bb:=chain bb b3
 clear b3;go_wp2_with fail;refine (EG _ _ (by rw [ByteArray.size_append]; omega)).mono ?_;rw [HS.out];rintro e w3 ⟨rfl,b3⟩
 replace bb:=chain bb b3
 clear b3;go_wp2_with fail;refine (EG _ _ (by rw [ByteArray.size_append]; omega)).mono ?_;rw [HM.out];rintro e w3 ⟨rfl,b3⟩
 replace bb:=chain bb b3
 clear b3;go_wp2_with fail;go_ret;exact ⟨rfl,bb⟩
theorem aCV (key s:ByteArray) (w:World) (hk:key.size ≤ 140737488351232) (hs:s.size ≤ 140737488351232) :
  Calls Tryz.prog 108 #[.string key,.string s] w fun e w' => e = .returned (.string (VE key s)) ∧ Below w.heap.size w w' :=
 VD key s _ _ _ _ w hk hs (Hd rfl) (Hd rfl) (Hd rfl) (Hd rfl) (sG _ _ (mJ _)) (sG _ _ (mJ _)) (pP _)
theorem RY (key s:ByteArray) (w:World) (hk:key.size ≤ 140737488351232) (hs:s.size ≤ 140737488351232) :
  Calls Tryz.prog 66 #[.string key,.string s] w fun e w' => e = .returned (.string ((VE key s).extract 0 16)) ∧ Below w.heap.size w w' := by
 have hm:=vO key s;have HM:=Hd (aCV key s w hk hs);generalize VE key s = m at *;go_enter Tryz.func66,Tryz.ntmps66;go_wp2_with fail;refine HM.out.mono ?_;rintro e w3 ⟨rfl,b3⟩;go_wp2_with fail;go_ret;exact ⟨rfl,b3⟩
def atN (s:ByteArray) (i:Nat):Nat:=(s.data.toList.getD i 0).toNat
theorem jL (s:ByteArray) (i:Nat):atN s i < 256:=UInt8.toNat_lt _
theorem xZ (s:ByteArray) (i:Nat) (w:World) :
  Calls Tryz.prog 111 #[.string s,.int .i64 (i:Int)] w fun e w' => e = .returned (.int .u8 (atN s i:Int)) ∧ w = w' := by
 by_cases h:i < s.size
 ·have hi:(i:Int) < (s.size:Int):=by omega
  have hv:s[i].toNat = atN s i:=by
   unfold atN;rw [List.getD_eq_getElem?_getD,List.getElem?_eq_getElem (by simpa using h)];simp [ByteArray.getElem_eq_getElem_data]
  go_enter Tryz.func111,Tryz.ntmps111;go_wp2_with fail;go_ret;exact ⟨rfl,rfl⟩
 ·have hi:¬ (i:Int) < (s.size:Int):=by omega
  have hv:atN s i = 0:=by
   unfold atN;rw [List.getD_eq_getElem?_getD,List.getElem?_eq_none (by simp; omega)]
   rfl
  rw [hv];go_enter Tryz.func111,Tryz.ntmps111;go_wp2_with fail;go_ret;exact ⟨rfl,rfl⟩
def iP (a b:ByteArray):Nat → Nat
 | 0=>0
 | n + 1=>iP a b n ||| (atN a n ^^^ atN b n)
theorem wL {a b:Nat} (ha:a < 256) (hb:b < 256):a ^^^ b < 256:=Nat.xor_lt_two_pow (n:=8) ha hb
theorem LB (a b:ByteArray) (n:Nat):iP a b n < 256:=by
 induction n with
 | zero=>exact (by decide:(0:Nat) < 256)
 | succ n ih=>exact Nat.or_lt_two_pow (n:=8) ih (wL (jL _ _) (jL _ _))
theorem QU {a b:Nat}:a ^^^ b = 0 ↔ a = b:=by
 constructor
 ·intro h
  apply Nat.eq_of_testBit_eq;intro i;have:=congrArg (Nat.testBit · i) h
  simpa using this
 ·rintro rfl
  exact Nat.xor_self _
theorem wC (a b:ByteArray) (n:Nat):iP a b n = 0 ↔ ∀ i,i < n → atN a i = atN b i:=by
 induction n with
 | zero=>simp [iP]
 | succ n ih =>
  have h1:iP a b (n + 1) = 0 ↔ iP a b n = 0 ∧ atN a n ^^^ atN b n = 0:=by
   show iP a b n ||| _ = 0 ↔ _
   exact Nat.or_eq_zero_iff
  rw [h1,ih,QU];constructor
  ·intro ⟨h,h'⟩ i hi
   rcases Nat.lt_succ_iff_lt_or_eq.1 hi with hi | rfl
   ·exact h i hi
   ·exact h'
  ·intro h
   exact ⟨fun i hi=>h i (by omega),h n (by omega)⟩
theorem zS (a b:ByteArray) (n:Nat) (h:n = max a.size b.size):(iP a b n = 0 ∧ a.size = b.size) ↔ a = b:=by
 constructor
 ·rintro ⟨hd,hs⟩
  rw [wC] at hd;apply aD;apply List.ext_getElem (by simpa using hs);intro i h1 h2;have:=hd i (by simp at h1; omega);unfold atN at this;rw [List.getD_eq_getElem?_getD,List.getD_eq_getElem?_getD,List.getElem?_eq_getElem h1,List.getElem?_eq_getElem h2] at this;exact UInt8.toNat_inj.1 this
 ·rintro rfl
  exact ⟨(wC _ _ _).2 fun _ _=>rfl,rfl⟩
theorem vB (a b:Nat) (ha:a < 256) (hb:b < 256):bits .or .u8 (a:Int) (b:Int) = ((a ||| b:Nat):Int):=by
 have hx:a ||| b < 2 ^ 8:=Nat.or_lt_two_pow (by omega) (by omega)
 have h8:∀ a:Nat,a < 256 → (BitVec.ofInt 8 (a:Int)).toNat = a:=fun a ha=>by
  rw [BitVec.ofInt_natCast,BitVec.toNat_ofNat]; exact Nat.mod_eq_of_lt (by omega)
 show IntKind.u8.wrap ((BitVec.ofInt 8 (a:Int) ||| BitVec.ofInt 8 (b:Int)).toNat:Int) = _
 rw [BitVec.toNat_or,h8 a ha,h8 b hb,IntKind.wrap_u8];omega
theorem ZC (a b:ByteArray) (v:Bool) (w:World) (ha:a.size ≤ 9223372036854775807) (hb:b.size ≤ 9223372036854775807) (hab:(a.size:Int) < (b.size:Int)) (hv:Hid (decide (iP a b b.size = 0 ∧ a.size = b.size) = v)) :
  Calls Tryz.prog 70 #[.string a,.string b] w fun e w' => e = .returned (.bool v) ∧ w = w' := by
 go_enter Tryz.func70,Tryz.ntmps70;go_wp2_with fail
 go_loop [5,12] (fun d i=>∃ n:Nat,n ≤ b.size ∧ d = .int .u8 (iP a b n:Int) ∧ i = .int .i64 (n:Int)) (fun _ i=>b.size + 1 - (intOf i).toNat)
 case atStart=>exact ⟨0,by omega,rfl,rfl⟩
 case round =>
  obtain ⟨n,hn,rfl,rfl⟩:=hrel
  by_cases hlt:n < b.size
  ·have hli:(n:Int) < (b.size:Int):=by omega
   have hx:=nI (atN a n) (atN b n) (jL _ _) (jL _ _);have ho:=vB (iP a b n) (atN a n ^^^ atN b n) (LB _ _ _) (wL (jL _ _) (jL _ _));have ST:Hid (iP a b (n + 1) = iP a b n ||| (atN a n ^^^ atN b n)):=Hd rfl;have A1:=fun w:World=>xZ a n w
   have A2:=fun w:World=>xZ b n w
   generalize atN a n = x at *;generalize atN b n = y at *;generalize x ^^^ y = z at *;generalize iP a b n = d at *;generalize d ||| z = d2 at *
   go_wp2_with fail;refine (A1 _).mono ?_;rintro e w1 ⟨rfl,rfl⟩;go_wp2_with fail;refine (A2 _).mono ?_;rintro e w1 ⟨rfl,rfl⟩;go_wp2_with fail
   go_round
   case rel=>exact ⟨n + 1,by omega,by rw [ST.out],by go_num⟩
   case measure=>simp [intOf]; omega
  ·obtain rfl:n = b.size:=by omega
   have hli:¬ ((b.size:Int) < (b.size:Int)):=by omega
   generalize iP a b b.size = d at *
   by_cases h0:d = 0
   ·have h0i:(d:Int) = 0:=by omega
    go_wp2_with fail;go_ret;refine ⟨cB ?_,rfl⟩;rw [← hv.out];simp [h0];try (rw [Bool.eq_iff_iff]; simp only [beq_iff_eq,decide_eq_true_eq]; omega)
   ·have h0i:¬ ((d:Int) = 0):=by omega
    go_wp2_with fail;go_ret;refine ⟨cB ?_,rfl⟩;rw [← hv.out];simp [h0];try (rw [Bool.eq_iff_iff]; simp only [beq_iff_eq,decide_eq_true_eq]; omega)
theorem ZE (a b:ByteArray) (v:Bool) (w:World) (ha:a.size ≤ 9223372036854775807) (hb:b.size ≤ 9223372036854775807) (hab:(b.size:Int) ≤ (a.size:Int)) (hv:Hid (decide (iP a b a.size = 0 ∧ a.size = b.size) = v)) :
  Calls Tryz.prog 70 #[.string a,.string b] w fun e w' => e = .returned (.bool v) ∧ w = w' := by
 go_enter Tryz.func70,Tryz.ntmps70;go_wp2_with fail
 go_loop [5,12] (fun d i=>∃ n:Nat,n ≤ a.size ∧ d = .int .u8 (iP a b n:Int) ∧ i = .int .i64 (n:Int)) (fun _ i=>a.size + 1 - (intOf i).toNat)
 case atStart=>exact ⟨0,by omega,rfl,rfl⟩
 case round =>
  obtain ⟨n,hn,rfl,rfl⟩:=hrel
  by_cases hlt:n < a.size
  ·have hli:(n:Int) < (a.size:Int):=by omega
   have hx:=nI (atN a n) (atN b n) (jL _ _) (jL _ _);have ho:=vB (iP a b n) (atN a n ^^^ atN b n) (LB _ _ _) (wL (jL _ _) (jL _ _));have ST:Hid (iP a b (n + 1) = iP a b n ||| (atN a n ^^^ atN b n)):=Hd rfl;have A1:=fun w:World=>xZ a n w
   have A2:=fun w:World=>xZ b n w
   generalize atN a n = x at *;generalize atN b n = y at *;generalize x ^^^ y = z at *;generalize iP a b n = d at *;generalize d ||| z = d2 at *
   go_wp2_with fail;refine (A1 _).mono ?_;rintro e w1 ⟨rfl,rfl⟩;go_wp2_with fail;refine (A2 _).mono ?_;rintro e w1 ⟨rfl,rfl⟩;go_wp2_with fail
   go_round
   case rel=>exact ⟨n + 1,by omega,by rw [ST.out],by go_num⟩
   case measure=>simp [intOf]; omega
  ·obtain rfl:n = a.size:=by omega
   have hli:¬ ((a.size:Int) < (a.size:Int)):=by omega
   generalize iP a b a.size = d at *
   by_cases h0:d = 0
   ·have h0i:(d:Int) = 0:=by omega
    go_wp2_with fail;go_ret;refine ⟨cB ?_,rfl⟩;rw [← hv.out];simp [h0];try (rw [Bool.eq_iff_iff]; simp only [beq_iff_eq,decide_eq_true_eq]; omega)
   ·have h0i:¬ ((d:Int) = 0):=by omega
    go_wp2_with fail;go_ret;refine ⟨cB ?_,rfl⟩;rw [← hv.out];simp [h0];try (rw [Bool.eq_iff_iff]; simp only [beq_iff_eq,decide_eq_true_eq]; omega)
theorem ZD (a b:ByteArray) (w:World) (ha:a.size ≤ 9223372036854775807) (hb:b.size ≤ 9223372036854775807) :
  Calls Tryz.prog 70 #[.string a,.string b] w fun e w' => e = .returned (.bool (decide (a = b))) ∧ w = w' := by
 rcases Int.lt_or_le (a.size:Int) (b.size:Int) with h | h
 ·exact ZC a b _ w ha hb h (Hd (by rw [decide_eq_decide]; exact zS a b _ (by omega)))
 ·exact ZE a b _ w ha hb h (Hd (by rw [decide_eq_decide]; exact zS a b _ (by omega)))
end Go.Proofs.YthcejfnngkmojaaGreatDoor
