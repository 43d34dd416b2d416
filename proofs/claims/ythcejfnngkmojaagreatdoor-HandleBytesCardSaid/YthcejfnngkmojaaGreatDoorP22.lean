/-
 RefSha1, HexMath, RefSpread, RefPad, RefRightQ, RefSum, RefMacS, Hrf.
-/
import Derived.Test.YthcejfnngkmojaaGreatDoorP19
import Derived.Outline
import Derived.Test.YthcejfnngkmojaaGreatDoorP05
import Derived.Test.YthcejfnngkmojaaGreatDoorP17
import Derived.Laws.MakeOwn
import Derived.Deep.DeepAppendRoom
import Derived.Deep.RegionLaw
import Derived.BigRegion
import Derived.Test.YthcejfnngkmojaaGreatDoorP20
import Derived.StillTailTactics
import Derived.Test.YthcejfnngkmojaaGreatDoorP21
namespace Go.Proofs.YthcejfnngkmojaaGreatDoor
open Go.RowKit
set_option maxRecDepth 20000
set_option maxHeartbeats 12800000
set_option linter.unusedVariables false
set_option linter.unusedSimpArgs false
theorem wR (w:World) :
  Calls Tryz.prog 156 #[] w fun e w' => ∃ g,e=.returned (.slice (some ⟨g,0,none⟩) 8 8)∧Arr 43 w' g S.HS.list∧w.heap.size ≤ g∧Below w.heap.size w w' := by
 go_enter Tryz.func156,Tryz.ntmps156;go_wp2_with fail;go_ret;exact ⟨_,rfl,(han w _).trans (by kernel_rfl),Nat.le_refl _,Br.alloc (Nat.le_refl _) _⟩
theorem wL (w:World) :
  Calls Tryz.prog 157 #[] w fun e w' => ∃ g,e=.returned (.slice (some ⟨g,0,none⟩) 64 64)∧Arr 43 w' g S.KS∧w.heap.size ≤ g∧Below w.heap.size w w' := by
 go_enter Tryz.func157,Tryz.ntmps157;go_wp2_with fail;go_ret;exact ⟨_,rfl,(han w _).trans (by kernel_rfl),Nat.le_refl _,Br.alloc (Nat.le_refl _) _⟩
theorem FO (x:Nat)(w:World)(hx:x < 4294967296) :
  Calls Tryz.prog 160 #[.int .u32 (x:Int),.int .i64 2] w fun e w' => e=.returned (.int .u32 (S.rot x 2:Int))∧Below w.heap.size w w' := by
 have ho:=aH (x / 2 ^ 2)(x * 2 ^ (32 - 2) % 4294967296)(Nat.lt_of_le_of_lt (Nat.div_le_self _ _) hx)(Nat.mod_lt _ (by decide));rw [Nat.or_comm] at ho;change _=(S.rot x 2:Int) at ho;generalize S.rot x 2=r at *;simp only [Int.natCast_emod,Int.natCast_mul,Int.natCast_ediv,Nat.reducePow,Nat.reduceSub,Int.cast_ofNat_Int] at ho;go_enter Tryz.func160,Tryz.ntmps160;go_wp2_with fail
 go_quiet (fail)
 go_wp2_with fail;go_ret;exact ⟨rfl,aD Br _⟩
theorem FN (x:Nat)(w:World)(hx:x < 4294967296) :
  Calls Tryz.prog 160 #[.int .u32 (x:Int),.int .i64 6] w fun e w' => e=.returned (.int .u32 (S.rot x 6:Int))∧Below w.heap.size w w' := by
 have ho:=aH (x / 2 ^ 6)(x * 2 ^ (32 - 6) % 4294967296)(Nat.lt_of_le_of_lt (Nat.div_le_self _ _) hx)(Nat.mod_lt _ (by decide));rw [Nat.or_comm] at ho;change _=(S.rot x 6:Int) at ho;generalize S.rot x 6=r at *;simp only [Int.natCast_emod,Int.natCast_mul,Int.natCast_ediv,Nat.reducePow,Nat.reduceSub,Int.cast_ofNat_Int] at ho;go_enter Tryz.func160,Tryz.ntmps160;go_wp2_with fail
 go_quiet (fail)
 go_wp2_with fail;go_ret;exact ⟨rfl,aD Br _⟩
theorem FM (x:Nat)(w:World)(hx:x < 4294967296) :
  Calls Tryz.prog 160 #[.int .u32 (x:Int),.int .i64 7] w fun e w' => e=.returned (.int .u32 (S.rot x 7:Int))∧Below w.heap.size w w' := by
 have ho:=aH (x / 2 ^ 7)(x * 2 ^ (32 - 7) % 4294967296)(Nat.lt_of_le_of_lt (Nat.div_le_self _ _) hx)(Nat.mod_lt _ (by decide));rw [Nat.or_comm] at ho;change _=(S.rot x 7:Int) at ho;generalize S.rot x 7=r at *;simp only [Int.natCast_emod,Int.natCast_mul,Int.natCast_ediv,Nat.reducePow,Nat.reduceSub,Int.cast_ofNat_Int] at ho;go_enter Tryz.func160,Tryz.ntmps160;go_wp2_with fail
 go_quiet (fail)
 go_wp2_with fail;go_ret;exact ⟨rfl,aD Br _⟩
theorem AC (x:Nat)(w:World)(hx:x < 4294967296) :
  Calls Tryz.prog 160 #[.int .u32 (x:Int),.int .i64 11] w fun e w' => e=.returned (.int .u32 (S.rot x 11:Int))∧Below w.heap.size w w' := by
 have ho:=aH (x / 2 ^ 11)(x * 2 ^ (32 - 11) % 4294967296)(Nat.lt_of_le_of_lt (Nat.div_le_self _ _) hx)(Nat.mod_lt _ (by decide));rw [Nat.or_comm] at ho;change _=(S.rot x 11:Int) at ho;generalize S.rot x 11=r at *;simp only [Int.natCast_emod,Int.natCast_mul,Int.natCast_ediv,Nat.reducePow,Nat.reduceSub,Int.cast_ofNat_Int] at ho;go_enter Tryz.func160,Tryz.ntmps160;go_wp2_with fail
 go_quiet (fail)
 go_wp2_with fail;go_ret;exact ⟨rfl,aD Br _⟩
theorem AB (x:Nat)(w:World)(hx:x < 4294967296) :
  Calls Tryz.prog 160 #[.int .u32 (x:Int),.int .i64 13] w fun e w' => e=.returned (.int .u32 (S.rot x 13:Int))∧Below w.heap.size w w' := by
 have ho:=aH (x / 2 ^ 13)(x * 2 ^ (32 - 13) % 4294967296)(Nat.lt_of_le_of_lt (Nat.div_le_self _ _) hx)(Nat.mod_lt _ (by decide));rw [Nat.or_comm] at ho;change _=(S.rot x 13:Int) at ho;generalize S.rot x 13=r at *;simp only [Int.natCast_emod,Int.natCast_mul,Int.natCast_ediv,Nat.reducePow,Nat.reduceSub,Int.cast_ofNat_Int] at ho;go_enter Tryz.func160,Tryz.ntmps160;go_wp2_with fail
 go_quiet (fail)
 go_wp2_with fail;go_ret;exact ⟨rfl,aD Br _⟩
theorem AA (x:Nat)(w:World)(hx:x < 4294967296) :
  Calls Tryz.prog 160 #[.int .u32 (x:Int),.int .i64 17] w fun e w' => e=.returned (.int .u32 (S.rot x 17:Int))∧Below w.heap.size w w' := by
 have ho:=aH (x / 2 ^ 17)(x * 2 ^ (32 - 17) % 4294967296)(Nat.lt_of_le_of_lt (Nat.div_le_self _ _) hx)(Nat.mod_lt _ (by decide));rw [Nat.or_comm] at ho;change _=(S.rot x 17:Int) at ho;generalize S.rot x 17=r at *;simp only [Int.natCast_emod,Int.natCast_mul,Int.natCast_ediv,Nat.reducePow,Nat.reduceSub,Int.cast_ofNat_Int] at ho;go_enter Tryz.func160,Tryz.ntmps160;go_wp2_with fail
 go_quiet (fail)
 go_wp2_with fail;go_ret;exact ⟨rfl,aD Br _⟩
theorem zZ (x:Nat)(w:World)(hx:x < 4294967296) :
  Calls Tryz.prog 160 #[.int .u32 (x:Int),.int .i64 18] w fun e w' => e=.returned (.int .u32 (S.rot x 18:Int))∧Below w.heap.size w w' := by
 have ho:=aH (x / 2 ^ 18)(x * 2 ^ (32 - 18) % 4294967296)(Nat.lt_of_le_of_lt (Nat.div_le_self _ _) hx)(Nat.mod_lt _ (by decide));rw [Nat.or_comm] at ho;change _=(S.rot x 18:Int) at ho;generalize S.rot x 18=r at *;simp only [Int.natCast_emod,Int.natCast_mul,Int.natCast_ediv,Nat.reducePow,Nat.reduceSub,Int.cast_ofNat_Int] at ho;go_enter Tryz.func160,Tryz.ntmps160;go_wp2_with fail
 go_quiet (fail)
 go_wp2_with fail;go_ret;exact ⟨rfl,aD Br _⟩
theorem zY (x:Nat)(w:World)(hx:x < 4294967296) :
  Calls Tryz.prog 160 #[.int .u32 (x:Int),.int .i64 19] w fun e w' => e=.returned (.int .u32 (S.rot x 19:Int))∧Below w.heap.size w w' := by
 have ho:=aH (x / 2 ^ 19)(x * 2 ^ (32 - 19) % 4294967296)(Nat.lt_of_le_of_lt (Nat.div_le_self _ _) hx)(Nat.mod_lt _ (by decide));rw [Nat.or_comm] at ho;change _=(S.rot x 19:Int) at ho;generalize S.rot x 19=r at *;simp only [Int.natCast_emod,Int.natCast_mul,Int.natCast_ediv,Nat.reducePow,Nat.reduceSub,Int.cast_ofNat_Int] at ho;go_enter Tryz.func160,Tryz.ntmps160;go_wp2_with fail
 go_quiet (fail)
 go_wp2_with fail;go_ret;exact ⟨rfl,aD Br _⟩
theorem zX (x:Nat)(w:World)(hx:x < 4294967296) :
  Calls Tryz.prog 160 #[.int .u32 (x:Int),.int .i64 22] w fun e w' => e=.returned (.int .u32 (S.rot x 22:Int))∧Below w.heap.size w w' := by
 have ho:=aH (x / 2 ^ 22)(x * 2 ^ (32 - 22) % 4294967296)(Nat.lt_of_le_of_lt (Nat.div_le_self _ _) hx)(Nat.mod_lt _ (by decide));rw [Nat.or_comm] at ho;change _=(S.rot x 22:Int) at ho;generalize S.rot x 22=r at *;simp only [Int.natCast_emod,Int.natCast_mul,Int.natCast_ediv,Nat.reducePow,Nat.reduceSub,Int.cast_ofNat_Int] at ho;go_enter Tryz.func160,Tryz.ntmps160;go_wp2_with fail
 go_quiet (fail)
 go_wp2_with fail;go_ret;exact ⟨rfl,aD Br _⟩
theorem zW (x:Nat)(w:World)(hx:x < 4294967296) :
  Calls Tryz.prog 160 #[.int .u32 (x:Int),.int .i64 25] w fun e w' => e=.returned (.int .u32 (S.rot x 25:Int))∧Below w.heap.size w w' := by
 have ho:=aH (x / 2 ^ 25)(x * 2 ^ (32 - 25) % 4294967296)(Nat.lt_of_le_of_lt (Nat.div_le_self _ _) hx)(Nat.mod_lt _ (by decide));rw [Nat.or_comm] at ho;change _=(S.rot x 25:Int) at ho;generalize S.rot x 25=r at *;simp only [Int.natCast_emod,Int.natCast_mul,Int.natCast_ediv,Nat.reducePow,Nat.reduceSub,Int.cast_ofNat_Int] at ho;go_enter Tryz.func160,Tryz.ntmps160;go_wp2_with fail
 go_quiet (fail)
 go_wp2_with fail;go_ret;exact ⟨rfl,aD Br _⟩
theorem iE (x:Nat)(k:Int)(w:World)(hx:x < 4294967296)(hk:k=2 ∨ k=6 ∨ k=7 ∨ k=11 ∨ k=13 ∨ k=17 ∨ k=18 ∨ k=19 ∨ k=22 ∨ k=25) :
  Calls Tryz.prog 160 #[.int .u32 (x:Int),.int .i64 k] w fun e w' => e=.returned (.int .u32 (S.rot x k.toNat:Int))∧Below w.heap.size w w' := by
 rcases hk with rfl | rfl | rfl | rfl | rfl | rfl | rfl | rfl | rfl | rfl
 ·exact FO x w hx
 ·exact FN x w hx
 ·exact FM x w hx
 ·exact AC x w hx
 ·exact AB x w hx
 ·exact AA x w hx
 ·exact zZ x w hx
 ·exact zY x w hx
 ·exact zX x w hx
 ·exact zW x w hx
def vby (b:UInt8):Value:=.int .u8 (b.toNat:Int)
theorem QD:(Tryz.prog.info? 5).map (fun i=>(i.zero,i.size,i.bytes))=some (some (.int .u8 0),1,1):=by kernel_rfl
theorem gW {P:Program} {ops:Array Oper} {o:Oper} {a:Act} {w:World} {K:Act → World → Prop} {Q:Exit → Act → World → Prop} {E:Prop} (hgd:o.guard=none)(s x:Operand)(t:TypeId)
  (ho:o.op=.call { callee:=.builtin .append,args:=#[s,x],argTypes:=#[t,t] })
  (base:Nat)(e:TypeId)(i:TypeInfo)(z:Value)(size bytes:Nat)(ht:P.underlying t=some (.slice e))(hi:P.info? e=some i)(hz:i.zero=some z)
  (hsize:i.size=size)(hby:i.bytes=bytes)(hzs:z.cells.size=size)(hsz:0 < size)
  (v:Value)(n:Nat)(xs:List Value)(hs:a.eval s=v)(hown:w.ownsRow base e size v n xs)
  (ad:Addr)(m c:Nat)(news:List Value)(hx:a.eval x=.slice (some ad) m c)(hl:news.length=m * size)(hnews:∀ j u,news[j]?=some u → w.cell? (ad.add j)=some u)(h1:∀ u ∈ news,u.oneCell'=true)
  (h63:n + m ≤ maxLen)(hbytes:(n + m) * bytes ≤ 140737488355328)(hbase:base ≤ w.heap.size)
  (h:∀ v' w', w'.ownsRow base e size v' (n + m)(xs ++ news) → w.grownBy w' v.ownBlock → (v'=.slice none 0 0 ↔ v=.slice none 0 0∧m=0) → K (a.put o.dst v') w') :
  if Region.wanted o (yielded ops a.tmps)=true then Oper.wp P o a w K Q else E:=by
 have hw:Region.wanted o (yielded ops a.tmps)=true:=by simp [Region.wanted,hgd]
 rw [if_pos hw];exact wp_append_own w s x t ho base e i z size bytes ht hi hz hsize hby hzs hsz v n xs hs hown ad m c news hx hl hnews h1 h63 hbytes hbase h
def vw (x:Nat):Value:=.int .u32 (x:Int)
theorem BZ:(Tryz.prog.info? 43).map (fun i=>(i.zero,i.size,i.bytes))=some (some (.int .u32 0),1,4):=by kernel_rfl
theorem BC (w:World)(x:Value)(T:TypeId):∀ j u,[x][j]?=some u → (w.alloc (.cells #[x] T)).cell? ((⟨w.heap.size,0,none⟩:Addr).add j)=some u:=by
 intro j u hj;rw [bU,World.cell?_alloc_new]
 match j,hj with
 | 0,hj=>simpa using hj
theorem ME (a b c d:Nat)(ha:a < 256)(hb:b < 256)(hc:c < 256)(hd:d < 256):∃ p q r:Nat,
  bits .or .u32 ((a:Int) * 16777216)((b:Int) * 65536)=(p:Int)∧bits .or .u32 (p:Int)((c:Int) * 256)=(q:Int)∧bits .or .u32 (q:Int)(d:Int)=(r:Int)∧r=((a * 256 + b) * 256 + c) * 256 + d:=by
 have e1:(a:Int) * 16777216=((a * 16777216:Nat):Int):=by omega
 have e2:(b:Int) * 65536=((b * 65536:Nat):Int):=by omega
 have e3:(c:Int) * 256=((c * 256:Nat):Int):=by omega
 refine ⟨a * 16777216 + b * 65536,a * 16777216 + b * 65536 + c * 256,a * 16777216 + b * 65536 + c * 256 + d,?_,?_,?_,by omega⟩
 ·rw [e1,e2,aH _ _ (by omega)(by omega),nat_join 24 (a * 16777216)(b * 65536)(by simp)(by omega)]
 ·rw [e3,aH _ _ (by omega)(by omega),nat_join 16 (a * 16777216 + b * 65536)(c * 256)(by omega)(by omega)]
 ·rw [aH _ _ (by omega)(by omega),nat_join 8 (a * 16777216 + b * 65536 + c * 256) d (by omega)(by omega)]
theorem YR (b:ByteArray)(hb:b.size=64)(i:Nat)(hi:i < 16)(h0:4 * i < b.size)(h1:4 * i + 1 < b.size)(h2:4 * i + 2 < b.size)(h3:4 * i + 3 < b.size) :
  S.word b.data.toList i=((b[4 * i].toNat * 256 + b[4 * i + 1].toNat) * 256 + b[4 * i + 2].toNat) * 256 + b[4 * i + 3].toNat:=by
 have hl:b.data.toList.length=64:=by simpa using hb
 have e:(b.data.toList.drop (4 * i)).take 4=[b[4 * i],b[4 * i + 1],b[4 * i + 2],b[4 * i + 3]]:=by
  rw [List.drop_eq_getElem_cons (by omega),List.take_succ_cons,List.drop_eq_getElem_cons (by omega),List.take_succ_cons,List.drop_eq_getElem_cons (by omega),List.take_succ_cons,List.drop_eq_getElem_cons (by omega),List.take_succ_cons,List.take_zero];simp [ByteArray.getElem_eq_getElem_data]
 unfold S.word;rw [e];simp [M.val]
def SPr (w:World)(L:List Nat)(e:Ending)(w' : World):Prop:=∃ g cap,e=.returned (.slice (some ⟨g,0,none⟩) 64 cap)∧w.heap.size ≤ g∧g < w'.heap.size∧(∀ j (h:j < L.length),w'.cell? ⟨g,j,none⟩=some (vw L[j]))∧Below w.heap.size w w'
theorem GG {w w' : World} {base:Nat} {e:TypeId} {v:Value} {n:Nat} {xs:List Value} (h:w.ownsRow base e 1 v n xs)(hb:Below w.heap.size w w'):w'.ownsRow base e 1 v n xs:=by
 refine ⟨h.1,?_⟩
 rcases h.2 with h | ⟨g,cap,cur,hv,hbg,hh,r⟩
 ·exact .inl h
 ·exact .inr ⟨g,cap,cur,hv,hbg,(hb.block g (zl hh)).trans hh,r⟩
theorem pM {w:World} {base:Nat} {v:Value} {n:Nat} {ws:List Nat} (h:w.ownsRow base 43 1 v n (ws.map vw))(hn:0 < n)(hl:ws.length=n) :
  ∃ g cap,v=.slice (some ⟨g,0,none⟩) n cap∧∀ j (hj:j < ws.length),w.cell? ⟨g,j,none⟩=some (.int .u32 ((ws[j]:Nat):Int)):=by
 rcases vE h with ⟨rfl,hx⟩ | ⟨g,cap,hv,_,hc⟩
 ·have:ws=[]:=by simpa using hx
  subst this; simp at hl; omega
 ·refine ⟨g,cap,by rw [hv,List.length_map,hl],fun j hj=>?_⟩
  have:=hc j _ (by rw [List.getElem?_map,List.getElem?_eq_getElem hj]; rfl);rwa [bU,Nat.zero_add] at this
theorem sJ (b:ByteArray)(hb:b.size=64)(w:World)(L:List Nat)(HL:Hid (S.wds b.data.toList 64=L)) :
  Calls Tryz.prog 159 #[.string b] w fun e w' => SPr w L e w' := by
 obtain ⟨i0,hi,hz0,hz1,hz2⟩:=info_parts BZ;go_enter Tryz.func159,Tryz.ntmps159;go_wp2_with fail;have bz:Hid (b.size=64):=Hd hb
 go_loopw [3,4] (fun v i wr=>∃ n:Nat,n ≤ 16∧i=.int .i64 (n:Int)∧Hid (wr.ownsRow w.heap.size 43 1 v n ((S.wds b.data.toList n).map vw))∧Hid (Below w.heap.size w wr))(fun _ i _=>17 - (intOf i).toNat)
 case atStart=>exact ⟨0,by omega,rfl,Hd (World.ownsRow_nil _ _ _ _),Hd Br⟩
 case round =>
  obtain ⟨n,hn,rfl,HO,HB⟩:=hrel
  by_cases hlt:n < 16
  ·have hli:(n:Int) < 16:=by omega
   have q0:4 * n < b.size:=by omega
   have q1:4 * n + 1 < b.size:=by omega
   have q2:4 * n + 2 < b.size:=by omega
   have q3:4 * n + 3 < b.size:=by omega
   have hw:=YR b hb n hlt q0 q1 q2 q3;have ST:Hid (S.wds b.data.toList (n + 1)=S.wds b.data.toList n ++ [S.word b.data.toList n]):=Hd (by show S.wds _ n ++ [if n < 16 then _ else _]=_; rw [if_pos hlt]);obtain ⟨x0,x1,x2,x3,e0,e1,e2,e3⟩:∃ x0 x1 x2 x3,b[4 * n].toNat=x0∧b[4 * n + 1].toNat=x1∧b[4 * n + 2].toNat=x2∧b[4 * n + 3].toNat=x3:=⟨_,_,_,_,rfl,rfl,rfl,rfl⟩
   have l0:x0 < 256:=by rw [← e0]; exact UInt8.toNat_lt _
   have l1:x1 < 256:=by rw [← e1]; exact UInt8.toNat_lt _
   have l2:x2 < 256:=by rw [← e2]; exact UInt8.toNat_lt _
   have l3:x3 < 256:=by rw [← e3]; exact UInt8.toNat_lt _
   rw [e0,e1,e2,e3] at hw;obtain ⟨p,q,r,o1,o2,o3,hr⟩:=ME x0 x1 x2 x3 l0 l1 l2 l3;rw [hw,← hr] at ST;clear hw hr hb;have k0:IntKind.i64.wrap (4 * (n:Int))=4 * (n:Int):=by rw [IntKind.wrap_i64]; omega
   have k1:IntKind.i64.wrap (4 * (n:Int) + 1)=4 * (n:Int) + 1:=by rw [IntKind.wrap_i64]; omega
   have k2:IntKind.i64.wrap (4 * (n:Int) + 2)=4 * (n:Int) + 2:=by rw [IntKind.wrap_i64]; omega
   have k3:IntKind.i64.wrap (4 * (n:Int) + 3)=4 * (n:Int) + 3:=by rw [IntKind.wrap_i64]; omega
   have m0:(4 * (n:Int)).toNat=4 * n:=by omega
   have m1:(4 * (n:Int) + 1).toNat=4 * n + 1:=by omega
   have m2:(4 * (n:Int) + 2).toNat=4 * n + 2:=by omega
   have m3:(4 * (n:Int) + 3).toNat=4 * n + 3:=by omega
   have y0:0 ≤ 4 * (n:Int)∧4 * (n:Int) < (b.size:Int):=by omega
   have y1:0 ≤ 4 * (n:Int) + 1∧4 * (n:Int) + 1 < (b.size:Int):=by omega
   have y2:0 ≤ 4 * (n:Int) + 2∧4 * (n:Int) + 2 < (b.size:Int):=by omega
   have y3:0 ≤ 4 * (n:Int) + 3∧4 * (n:Int) + 3 < (b.size:Int):=by omega
   have v0:IntKind.u32.wrap (x0:Int)=(x0:Int):=by rw [IntKind.wrap_u32]; omega
   have v1:IntKind.u32.wrap (x1:Int)=(x1:Int):=by rw [IntKind.wrap_u32]; omega
   have v2:IntKind.u32.wrap (x2:Int)=(x2:Int):=by rw [IntKind.wrap_u32]; omega
   have v3:IntKind.u32.wrap (x3:Int)=(x3:Int):=by rw [IntKind.wrap_u32]; omega
   have u0:IntKind.u32.wrap ((x0:Int) * 16777216)=(x0:Int) * 16777216:=by rw [IntKind.wrap_u32]; omega
   have u1:IntKind.u32.wrap ((x1:Int) * 65536)=(x1:Int) * 65536:=by rw [IntKind.wrap_u32]; omega
   have u2:IntKind.u32.wrap ((x2:Int) * 256)=(x2:Int) * 256:=by rw [IntKind.wrap_u32]; omega
   go_wp2_with fail
   go_region_law (refine gW rfl (.tmp 14)(.tmp 44) 230 rfl w.heap.size 43 i0 (.int .u32 0) 1 4 Tryz.underlying230 hi hz0 hz1 hz2 rfl (by decide) _ n _ rfl (HO.out.alloc _) ⟨wr.heap.size,0,none⟩ 1 1 [vw r] rfl rfl (BC wr (vw r) _)(by intro u hu; simp at hu; subst hu; rfl)(by unfold maxLen; omega)(by omega)(by have:=HB.out.size; simp; omega) ?_; intro v' w' hown' hgrow _)
   all_goals
    have HB2:Hid (Below w.heap.size w w'):=Hd ((((HB.out.alloc HB.out.size _).drew)).grown hgrow (by have:=HB.out.size; simp; omega)(fun g hg=>(HO.out.lt g hg).1));have HO2:Hid (w'.ownsRow w.heap.size 43 1 v' (n + 1)((S.wds b.data.toList (n + 1)).map vw)):=Hd (by rw [ST.out,List.map_append]; exact hown');clear hown' hgrow;go_wp2_with fail;go_roundw
    case rel=>exact ⟨n + 1,by omega,by go_num,HO2,HB2⟩
    case measure=>simp [intOf]; omega
  ·obtain rfl:n=16:=by omega
   have hli:¬ (((16:Nat):Int) < 16):=by omega
   clear hlt hn;go_wp2_with fail
   go_loopw [3,5] (fun v i wr=>∃ n:Nat,16 ≤ n∧n ≤ 64∧i=.int .i64 (n:Int)∧Hid (wr.ownsRow w.heap.size 43 1 v n ((S.wds b.data.toList n).map vw))∧Hid (Below w.heap.size w wr))(fun _ i _=>65 - (intOf i).toNat)
   case atStart=>exact ⟨16,by omega,by omega,rfl,HO,HB⟩
   clear HO HB
   case round =>
    obtain ⟨n,hn16,hn,rfl,HO,HB⟩:=hrel
    by_cases hlt:n < 64
    ·have hli:(n:Int) < 64:=by omega
     have hll:=S.wds_length b.data.toList n;have hlls:=S.wds_lt b.data.toList n;have ST:Hid (S.wds b.data.toList (n + 1)=S.wds b.data.toList n ++ [S.wnext (S.wds b.data.toList n) n]):=Hd (by show S.wds _ n ++ [if n < 16 then _ else _]=_; rw [if_neg (by omega)]);generalize S.wds b.data.toList n=ws at *;obtain ⟨g,cap,rfl,hcells⟩:=pM HO.out (by omega)(by simpa using hll)
     have getx:∀ k,k < n → ∃ x,x < 4294967296∧ws.getD k 0=x∧wr.cell? ⟨g,k,none⟩=some (.int .u32 (x:Int)):=fun k hk=>by
      have hk' : k < ws.length:=by omega
      refine ⟨ws[k],hlls _ (List.getElem_mem hk'),by rw [List.getD_eq_getElem?_getD,List.getElem?_eq_getElem hk']; rfl,hcells k hk'⟩
     obtain ⟨x,hx,ex,cx⟩:=getx (n - 15)(by omega);obtain ⟨y,hy,ey,cy⟩:=getx (n - 2)(by omega);obtain ⟨z,hz,ez,cz⟩:=getx (n - 7)(by omega);obtain ⟨u,hu,eu,cu⟩:=getx (n - 16)(by omega);obtain ⟨p0,xa,xb⟩:=KG x hx;obtain ⟨p1,ya,yb⟩:=KF y hy;have hwn:=yA ws n ex ey ez eu;rw [hwn] at ST;have A1:=(cO (S.s1 y) z).1;have A1w:=(cO (S.s1 y) z).2;have A2:=(cO (S.add (S.s1 y) z)(S.s0 x)).1;have A2w:=(cO (S.add (S.s1 y) z)(S.s0 x)).2;have A3:=(cO (S.add (S.add (S.s1 y) z)(S.s0 x)) u).1
     have A3w:=(cO (S.add (S.add (S.s1 y) z)(S.s0 x)) u).2;generalize S.add (S.add (S.add (S.s1 y) z)(S.s0 x)) u=r at *;generalize S.add (S.add (S.s1 y) z)(S.s0 x)=r2 at *;generalize S.add (S.s1 y) z=r1 at *;generalize S.s0 x=sx at *;generalize S.s1 y=sy at *;have j15:(n:Int) - 15=((n - 15:Nat):Int):=by omega
     have j2:(n:Int) - 2=((n - 2:Nat):Int):=by omega
     have j7:(n:Int) - 7=((n - 7:Nat):Int):=by omega
     have j16:(n:Int) - 16=((n - 16:Nat):Int):=by omega
     have i15:((n - 15:Nat):Int) < (n:Int):=by omega
     have i2:((n - 2:Nat):Int) < (n:Int):=by omega
     have i7:((n - 7:Nat):Int) < (n:Int):=by omega
     have i16:((n - 16:Nat):Int) < (n:Int):=by omega
     clear getx hcells hlls hwn ex ey ez eu hll;generalize n - 15=n15 at *;generalize n - 2=n2 at *;generalize n - 7=n7 at *;generalize n - 16=n16 at *;go_wp2_with fail;refine (iE _ _ _ hx (by omega)).mono ?_;rintro e wq ⟨rfl,bq⟩;have bb:=bq;clear bq;go_wp2_with fail;refine (iE _ _ _ hx (by omega)).mono ?_;rintro e wq ⟨rfl,bq⟩
     replace bb:=chain bb bq
     clear bq;go_wp2_with fail;refine (iE _ _ _ hy (by omega)).mono ?_;rintro e wq ⟨rfl,bq⟩
     replace bb:=chain bb bq
     clear bq;go_wp2_with fail;refine (iE _ _ _ hy (by omega)).mono ?_;rintro e wq ⟨rfl,bq⟩
     replace bb:=chain bb bq
     clear bq;have hgl:=(HO.out.lt g rfl).2;have HO' := Hd (GG HO.out bb)
     replace cz:=(bb.cell (p:=⟨g,n7,none⟩) hgl).trans cz
     replace cu:=(bb.cell (p:=⟨g,n16,none⟩) hgl).trans cu
     have HBq:=Hd (HB.out.trans (bb.mono HB.out.size));clear cx cy HO HB hgl;have kk7:IntKind.i64.wrap ((n7:Nat):Int)=(n7:Int):=by rw [IntKind.wrap_i64]; omega
     have kk16:IntKind.i64.wrap ((n16:Nat):Int)=(n16:Int):=by rw [IntKind.wrap_i64]; omega
     generalize hwq:wq=wz at *;clear hwq;go_wp2_with fail
     go_region_law (refine gW rfl (.tmp 76)(.tmp 92) 230 rfl w.heap.size 43 i0 (.int .u32 0) 1 4 Tryz.underlying230 hi hz0 hz1 hz2 rfl (by decide) _ n _ rfl (HO'.out.alloc _) ⟨wz.heap.size,0,none⟩ 1 1 [vw r] rfl rfl (BC wz (vw r) _)(by intro u hu; simp at hu; subst hu; rfl)(by unfold maxLen; omega)(by omega)(by have:=HBq.out.size; simp; omega) ?_; intro v' w' hown' hgrow _)
     all_goals
      have HB2:Hid (Below w.heap.size w w'):=Hd ((((HBq.out.alloc HBq.out.size _).drew)).grown hgrow (by have:=HBq.out.size; simp; omega)(fun g hg=>(HO'.out.lt g hg).1));have HO2:Hid (w'.ownsRow w.heap.size 43 1 v' (n + 1)((S.wds b.data.toList (n + 1)).map vw)):=Hd (by rw [ST.out,List.map_append]; exact hown');clear hown' hgrow;go_wp2_with fail;go_roundw
      case rel=>exact ⟨n + 1,by omega,by omega,by go_num,HO2,HB2⟩
      case measure=>simp [intOf]; omega
    ·obtain rfl:n=64:=by omega
     have hli:¬ (((64:Nat):Int) < 64):=by omega
     have hO:=HO.out;rw [HL.out] at hO;have hlL:L.length=64:=by rw [← HL.out]; exact S.wds_length _ _
     obtain ⟨g,cap,rfl,hcells⟩:=pM hO (by omega) hlL;have hgl:=hO.lt g rfl;have RES:Hid (w.heap.size ≤ g∧g < wr.heap.size∧(∀ j (h:j < L.length),wr.cell? ⟨g,j,none⟩=some (vw L[j]))):=Hd ⟨hgl.1,hgl.2,hcells⟩;clear hO hcells hgl HO hlL;go_wp2_with fail;go_ret;unfold SPr;exact ⟨g,cap,rfl,RES.out.1,RES.out.2.1,RES.out.2.2,HB.out⟩
theorem uB (b:ByteArray)(w:World)(hb:b.size=64) :
  Calls Tryz.prog 159 #[.string b] w fun e w' => SPr w (S.wds b.data.toList 64) e w' :=
 sJ b hb w _ (Hd rfl)
theorem OQ (l:List UInt8):S.padded l=l ++ (0x80 :: (List.replicate (S.zeros l.length) 0 ++ M.be 8 (l.length * 8))):=by
 unfold S.padded S.tail
 have h:S.zeros (l.drop (l.length / 64 * 64)).length=S.zeros l.length:=by
  unfold S.zeros; rw [List.length_drop]; omega
 rw [h,List.append_assoc,List.append_assoc,← List.append_assoc (l.take _),List.take_append_drop]
 rfl
theorem fL (w:World)(x:UInt8)(z:Int)(hz:(x.toNat:Int)=z) :
  (convert 31 9 (.slice (some ⟨w.heap.size,0,none⟩) 1 1)).run Tryz.prog (w.alloc (.cells #[.int .u8 z] 5))=.ok (.string (Str [x]))(w.alloc (.cells #[.int .u8 z] 5)):=by
 subst hz;refine run_convert_bytes_back (P:=Tryz.prog) _ 31 9 5 ⟨w.heap.size,0,none⟩ 1 [x] Tryz.underlying31 Tryz.underlying5 Tryz.underlying9 (fun j hj=>?_);obtain rfl:j=0:=by simp at hj; exact hj
 rw [bU,World.cell?_alloc_new]
 rfl
theorem gO (a b:List UInt8):Str a ++ Str b=Str (a ++ b):=by rw [nM,aP]
theorem cT (x:Nat)(h:x < 256):((UInt8.ofNat x).toNat:Int)=(x:Int):=by
 simp [Nat.mod_eq_of_lt h]
theorem sK (s t0:ByteArray)(l:List UInt8)(hl:s.size=l.length)(h0:Hid (s ++ ⟨#[128]⟩=t0))(ht0:Hid (t0=Str (l ++ [128])))(hz:l.length ≤ 1048576)(w:World)(P:List UInt8)(HP:Hid (S.padded l=P)) :
  Calls Tryz.prog 158 #[.string s] w fun e w' => e=.returned (.string (Str P))∧Below w.heap.size w w' := by
 have HPE:=Hd ((OQ l).symm.trans HP.out);have s80:(⟨#[128]⟩:ByteArray).size=1:=rfl;have c80:(9223372036854775807 < l.length + 1)=False:=by rw [eq_iff_iff,iff_false]; omega
 go_enter Tryz.func158,Tryz.ntmps158;go_wp2_with fail;rw [h0.out];clear s80 c80;have HA:Hid (t0=Str (l ++ 128 :: List.replicate 0 0)):=ht0
 go_loopg [0] (S.zeros l.length)(fun k v wr=>∃ (m:Nat)(t:ByteArray),m ≤ S.zeros l.length∧k=S.zeros l.length - m∧v=.string t∧Hid (t=Str (l ++ 128 :: List.replicate m 0))∧wr=w)
 case atStart=>exact ⟨0,t0,Nat.zero_le _,rfl,rfl,HA,rfl⟩
 case round =>
  obtain ⟨m,t,hm,rfl,rfl,HT,rfl⟩:=hrel;clear HA ht0 h0;have hts:t.size=l.length + 1 + m:=by rw [HT.out,aK]; simp; omega
  have hZ64:S.zeros l.length < 64:=by unfold S.zeros; omega
  by_cases hmz:m=S.zeros l.length
  ·have hcond:(t.size:Int) % 64=56:=by unfold S.zeros at hmz; omega
   have HT2:Hid (t=Str (l ++ tkS (S.zeros l.length)(l.length * 8) 0)):=Hd (by rw [HT.out,JU,hmz]);have hts2:Hid (t.size ≤ 1048700):=Hd (by omega);clear hts HT hm hZ64;go_wp2_with fail;clear hcond;subst hmz;generalize ((t.size:Int) % 64 != 56)=bb
   go_loopg [0,4] 8 (fun k v i wr2=>∃ (j:Nat)(t:ByteArray),j ≤ 8∧k=8 - j∧v=.string t∧i=.int .i64 (7 - (j:Int))∧Hid (t=Str (l ++ tkS (S.zeros l.length)(l.length * 8) j))∧Hid (t.size ≤ 1048700 + j)∧Hid (Below wr.heap.size wr wr2))
   case atStart=>exact ⟨0,t,by omega,rfl,rfl,rfl,HT2,hts2,Hd Br⟩
   case round =>
    obtain ⟨j,t,hj,rfl,rfl,rfl,HT,HS,HB⟩:=hrel
    by_cases hj8:j < 8
    ·obtain rfl | rfl | rfl | rfl | rfl | rfl | rfl | rfl:j=0 ∨ j=1 ∨ j=2 ∨ j=3 ∨ j=4 ∨ j=5 ∨ j=6 ∨ j=7:=by omega
     ·have hby:((UInt8.ofNat (l.length * 8 / 256 ^ (7 - 0) % 256)).toNat:Int)=8 * (l.length:Int) / 72057594037927936:=by rw [cT _ (by omega)]; omega
      have hcv:=fL wr (UInt8.ofNat (l.length * 8 / 256 ^ (7 - 0) % 256)) _ hby;have STEP:=Hd (dD (S.zeros l.length)(l.length * 8) 0 (by omega));generalize UInt8.ofNat (l.length * 8 / 256 ^ (7 - 0) % 256)=b at *;obtain ⟨t2,ht2⟩:∃ t2,t ++ Str [b]=t2:=⟨_,rfl⟩
      have HT3:Hid (t2=Str (l ++ tkS (S.zeros l.length)(l.length * 8)(0 + 1))):=Hd (by
       rw [← ht2,HT.out,gO,List.append_assoc,STEP.out])
      have HS3:Hid (t2.size ≤ 1048700 + (0 + 1)):=Hd (by rw [← ht2,ByteArray.size_append,aK]; have:=HS.out; simp; omega);have s1:(Str [b]).size=1:=aK _;have c1:(9223372036854775807 < t.size + 1)=False:=by rw [eq_iff_iff,iff_false]; have:=HS.out; omega
      have FB:=Hd (HB.out.alloc HB.out.size (.cells #[.int .u8 (8 * (l.length:Int) / 72057594037927936)] 5));clear hby STEP HT HS HB;go_wp2_with fail
      go_roundg (8 - (0 + 1))
      case measure=>exact (by decide)
      case rel=>exact ⟨0 + 1,t2,by omega,rfl,rfl,rfl,HT3,HS3,FB⟩
     ·have hby:((UInt8.ofNat (l.length * 8 / 256 ^ (7 - 1) % 256)).toNat:Int)=8 * (l.length:Int) / 281474976710656:=by rw [cT _ (by omega)]; omega
      have hcv:=fL wr (UInt8.ofNat (l.length * 8 / 256 ^ (7 - 1) % 256)) _ hby;have STEP:=Hd (dD (S.zeros l.length)(l.length * 8) 1 (by omega));generalize UInt8.ofNat (l.length * 8 / 256 ^ (7 - 1) % 256)=b at *;obtain ⟨t2,ht2⟩:∃ t2,t ++ Str [b]=t2:=⟨_,rfl⟩
      have HT3:Hid (t2=Str (l ++ tkS (S.zeros l.length)(l.length * 8)(1 + 1))):=Hd (by
       rw [← ht2,HT.out,gO,List.append_assoc,STEP.out])
      have HS3:Hid (t2.size ≤ 1048700 + (1 + 1)):=Hd (by rw [← ht2,ByteArray.size_append,aK]; have:=HS.out; simp; omega);have s1:(Str [b]).size=1:=aK _;have c1:(9223372036854775807 < t.size + 1)=False:=by rw [eq_iff_iff,iff_false]; have:=HS.out; omega
      have FB:=Hd (HB.out.alloc HB.out.size (.cells #[.int .u8 (8 * (l.length:Int) / 281474976710656)] 5));clear hby STEP HT HS HB;go_wp2_with fail
      go_roundg (8 - (1 + 1))
      case measure=>exact (by decide)
      case rel=>exact ⟨1 + 1,t2,by omega,rfl,rfl,rfl,HT3,HS3,FB⟩
     ·have hby:((UInt8.ofNat (l.length * 8 / 256 ^ (7 - 2) % 256)).toNat:Int)=8 * (l.length:Int) / 1099511627776:=by rw [cT _ (by omega)]; omega
      have hcv:=fL wr (UInt8.ofNat (l.length * 8 / 256 ^ (7 - 2) % 256)) _ hby;have STEP:=Hd (dD (S.zeros l.length)(l.length * 8) 2 (by omega));generalize UInt8.ofNat (l.length * 8 / 256 ^ (7 - 2) % 256)=b at *;obtain ⟨t2,ht2⟩:∃ t2,t ++ Str [b]=t2:=⟨_,rfl⟩
      have HT3:Hid (t2=Str (l ++ tkS (S.zeros l.length)(l.length * 8)(2 + 1))):=Hd (by
       rw [← ht2,HT.out,gO,List.append_assoc,STEP.out])
      have HS3:Hid (t2.size ≤ 1048700 + (2 + 1)):=Hd (by rw [← ht2,ByteArray.size_append,aK]; have:=HS.out; simp; omega);have s1:(Str [b]).size=1:=aK _;have c1:(9223372036854775807 < t.size + 1)=False:=by rw [eq_iff_iff,iff_false]; have:=HS.out; omega
      have FB:=Hd (HB.out.alloc HB.out.size (.cells #[.int .u8 (8 * (l.length:Int) / 1099511627776)] 5));clear hby STEP HT HS HB;go_wp2_with fail
      go_roundg (8 - (2 + 1))
      case measure=>exact (by decide)
      case rel=>exact ⟨2 + 1,t2,by omega,rfl,rfl,rfl,HT3,HS3,FB⟩
     ·have hby:((UInt8.ofNat (l.length * 8 / 256 ^ (7 - 3) % 256)).toNat:Int)=8 * (l.length:Int) / 4294967296:=by rw [cT _ (by omega)]; omega
      have hcv:=fL wr (UInt8.ofNat (l.length * 8 / 256 ^ (7 - 3) % 256)) _ hby;have STEP:=Hd (dD (S.zeros l.length)(l.length * 8) 3 (by omega));generalize UInt8.ofNat (l.length * 8 / 256 ^ (7 - 3) % 256)=b at *;obtain ⟨t2,ht2⟩:∃ t2,t ++ Str [b]=t2:=⟨_,rfl⟩
      have HT3:Hid (t2=Str (l ++ tkS (S.zeros l.length)(l.length * 8)(3 + 1))):=Hd (by
       rw [← ht2,HT.out,gO,List.append_assoc,STEP.out])
      have HS3:Hid (t2.size ≤ 1048700 + (3 + 1)):=Hd (by rw [← ht2,ByteArray.size_append,aK]; have:=HS.out; simp; omega);have s1:(Str [b]).size=1:=aK _;have c1:(9223372036854775807 < t.size + 1)=False:=by rw [eq_iff_iff,iff_false]; have:=HS.out; omega
      have FB:=Hd (HB.out.alloc HB.out.size (.cells #[.int .u8 (8 * (l.length:Int) / 4294967296)] 5));clear hby STEP HT HS HB;go_wp2_with fail
      go_roundg (8 - (3 + 1))
      case measure=>exact (by decide)
      case rel=>exact ⟨3 + 1,t2,by omega,rfl,rfl,rfl,HT3,HS3,FB⟩
     ·have hby:((UInt8.ofNat (l.length * 8 / 256 ^ (7 - 4) % 256)).toNat:Int)=8 * (l.length:Int) / 16777216:=by rw [cT _ (by omega)]; omega
      have hcv:=fL wr (UInt8.ofNat (l.length * 8 / 256 ^ (7 - 4) % 256)) _ hby;have STEP:=Hd (dD (S.zeros l.length)(l.length * 8) 4 (by omega));generalize UInt8.ofNat (l.length * 8 / 256 ^ (7 - 4) % 256)=b at *;obtain ⟨t2,ht2⟩:∃ t2,t ++ Str [b]=t2:=⟨_,rfl⟩
      have HT3:Hid (t2=Str (l ++ tkS (S.zeros l.length)(l.length * 8)(4 + 1))):=Hd (by
       rw [← ht2,HT.out,gO,List.append_assoc,STEP.out])
      have HS3:Hid (t2.size ≤ 1048700 + (4 + 1)):=Hd (by rw [← ht2,ByteArray.size_append,aK]; have:=HS.out; simp; omega);have s1:(Str [b]).size=1:=aK _;have c1:(9223372036854775807 < t.size + 1)=False:=by rw [eq_iff_iff,iff_false]; have:=HS.out; omega
      have FB:=Hd (HB.out.alloc HB.out.size (.cells #[.int .u8 (8 * (l.length:Int) / 16777216)] 5));clear hby STEP HT HS HB;go_wp2_with fail
      go_roundg (8 - (4 + 1))
      case measure=>exact (by decide)
      case rel=>exact ⟨4 + 1,t2,by omega,rfl,rfl,rfl,HT3,HS3,FB⟩
     ·have hby:((UInt8.ofNat (l.length * 8 / 256 ^ (7 - 5) % 256)).toNat:Int)=8 * (l.length:Int) / 65536:=by rw [cT _ (by omega)]; omega
      have hcv:=fL wr (UInt8.ofNat (l.length * 8 / 256 ^ (7 - 5) % 256)) _ hby;have STEP:=Hd (dD (S.zeros l.length)(l.length * 8) 5 (by omega));generalize UInt8.ofNat (l.length * 8 / 256 ^ (7 - 5) % 256)=b at *;obtain ⟨t2,ht2⟩:∃ t2,t ++ Str [b]=t2:=⟨_,rfl⟩
      have HT3:Hid (t2=Str (l ++ tkS (S.zeros l.length)(l.length * 8)(5 + 1))):=Hd (by
       rw [← ht2,HT.out,gO,List.append_assoc,STEP.out])
      have HS3:Hid (t2.size ≤ 1048700 + (5 + 1)):=Hd (by rw [← ht2,ByteArray.size_append,aK]; have:=HS.out; simp; omega);have s1:(Str [b]).size=1:=aK _;have c1:(9223372036854775807 < t.size + 1)=False:=by rw [eq_iff_iff,iff_false]; have:=HS.out; omega
      have FB:=Hd (HB.out.alloc HB.out.size (.cells #[.int .u8 (8 * (l.length:Int) / 65536)] 5));clear hby STEP HT HS HB;go_wp2_with fail
      go_roundg (8 - (5 + 1))
      case measure=>exact (by decide)
      case rel=>exact ⟨5 + 1,t2,by omega,rfl,rfl,rfl,HT3,HS3,FB⟩
     ·have hby:((UInt8.ofNat (l.length * 8 / 256 ^ (7 - 6) % 256)).toNat:Int)=8 * (l.length:Int) / 256 % 256:=by rw [cT _ (by omega)]; omega
      have hcv:=fL wr (UInt8.ofNat (l.length * 8 / 256 ^ (7 - 6) % 256)) _ hby;have STEP:=Hd (dD (S.zeros l.length)(l.length * 8) 6 (by omega));generalize UInt8.ofNat (l.length * 8 / 256 ^ (7 - 6) % 256)=b at *;obtain ⟨t2,ht2⟩:∃ t2,t ++ Str [b]=t2:=⟨_,rfl⟩
      have HT3:Hid (t2=Str (l ++ tkS (S.zeros l.length)(l.length * 8)(6 + 1))):=Hd (by
       rw [← ht2,HT.out,gO,List.append_assoc,STEP.out])
      have HS3:Hid (t2.size ≤ 1048700 + (6 + 1)):=Hd (by rw [← ht2,ByteArray.size_append,aK]; have:=HS.out; simp; omega);have s1:(Str [b]).size=1:=aK _;have c1:(9223372036854775807 < t.size + 1)=False:=by rw [eq_iff_iff,iff_false]; have:=HS.out; omega
      have FB:=Hd (HB.out.alloc HB.out.size (.cells #[.int .u8 (8 * (l.length:Int) / 256 % 256)] 5));clear hby STEP HT HS HB;go_wp2_with fail
      go_roundg (8 - (6 + 1))
      case measure=>exact (by decide)
      case rel=>exact ⟨6 + 1,t2,by omega,rfl,rfl,rfl,HT3,HS3,FB⟩
     ·have hby:((UInt8.ofNat (l.length * 8 / 256 ^ (7 - 7) % 256)).toNat:Int)=8 * (l.length:Int) % 256:=by rw [cT _ (by omega)]; omega
      have hcv:=fL wr (UInt8.ofNat (l.length * 8 / 256 ^ (7 - 7) % 256)) _ hby;have STEP:=Hd (dD (S.zeros l.length)(l.length * 8) 7 (by omega));generalize UInt8.ofNat (l.length * 8 / 256 ^ (7 - 7) % 256)=b at *;obtain ⟨t2,ht2⟩:∃ t2,t ++ Str [b]=t2:=⟨_,rfl⟩
      have HT3:Hid (t2=Str (l ++ tkS (S.zeros l.length)(l.length * 8)(7 + 1))):=Hd (by
       rw [← ht2,HT.out,gO,List.append_assoc,STEP.out])
      have HS3:Hid (t2.size ≤ 1048700 + (7 + 1)):=Hd (by rw [← ht2,ByteArray.size_append,aK]; have:=HS.out; simp; omega);have s1:(Str [b]).size=1:=aK _;have c1:(9223372036854775807 < t.size + 1)=False:=by rw [eq_iff_iff,iff_false]; have:=HS.out; omega
      have FB:=Hd (HB.out.alloc HB.out.size (.cells #[.int .u8 (8 * (l.length:Int) % 256)] 5));clear hby STEP HT HS HB;go_wp2_with fail
      go_roundg (8 - (7 + 1))
      case measure=>exact (by decide)
      case rel=>exact ⟨7 + 1,t2,by omega,rfl,rfl,rfl,HT3,HS3,FB⟩
    ·obtain rfl:j=8:=by omega
     have HE:Hid (t=Str P):=Hd (by
      rw [HT.out,← HPE.out];unfold tkS;rw [List.take_of_length_le (by rw [M.be_length]; omega)]
      rfl)
     go_wp2_with fail;go_ret;exact ⟨by rw [HE.out]; rfl,HB.out⟩
  ·have hcond:¬ ((t.size:Int) % 64=56):=by unfold S.zeros at hmz hm; omega
   have s00:(⟨#[0]⟩:ByteArray).size=1:=rfl;have c00:(9223372036854775807 < t.size + 1)=False:=by rw [eq_iff_iff,iff_false]; omega
   obtain ⟨t2,ht2⟩:∃ t2,t ++ ⟨#[0]⟩=t2:=⟨_,rfl⟩
   have HT2:Hid (t2=Str (l ++ 128 :: List.replicate (m + 1) 0)):=Hd (by
    rw [← ht2,HT.out,show (⟨#[0]⟩:ByteArray)=Str [0] from rfl,gO,List.replicate_succ']; simp)
   clear hts;go_wp2_with fail
   go_roundg (S.zeros l.length - (m + 1))
   case measure=>omega
   case rel=>exact ⟨m + 1,t2,by omega,rfl,rfl,HT2,rfl⟩
theorem uC (s:ByteArray)(w:World)(hz:s.size ≤ 1048576) :
  Calls Tryz.prog 158 #[.string s] w fun e w' => e=.returned (.string (Str (S.padded s.data.toList)))∧Below w.heap.size w w' :=
 sK s _ s.data.toList (by simp)(Hd rfl)(Hd (by rw [← gO,YM]; rfl))(by simpa using hz) w _ (Hd rfl)
theorem AE (x:Nat)(w:World)(hx:x < 4294967296) :
  Calls Tryz.prog 160 #[.int .u32 (x:Int),.int .i64 2] w fun e w' => e=.returned (.int .u32 (S.rot x 2:Int))∧∃ n,w'=w.drewN n:=by
 have ho:=aH (x / 2 ^ 2)(x * 2 ^ (32 - 2) % 4294967296)(Nat.lt_of_le_of_lt (Nat.div_le_self _ _) hx)(Nat.mod_lt _ (by decide));rw [Nat.or_comm] at ho;change _=(S.rot x 2:Int) at ho;generalize S.rot x 2=r at *;simp only [Int.natCast_emod,Int.natCast_mul,Int.natCast_ediv,Nat.reducePow,Nat.reduceSub,Int.cast_ofNat_Int] at ho;go_enter Tryz.func160,Tryz.ntmps160;go_wp2_with fail
 go_quiet (fail)
 go_wp2_with fail;go_ret;exact ⟨rfl,_,rfl⟩
theorem AD (x:Nat)(w:World)(hx:x < 4294967296) :
  Calls Tryz.prog 160 #[.int .u32 (x:Int),.int .i64 6] w fun e w' => e=.returned (.int .u32 (S.rot x 6:Int))∧∃ n,w'=w.drewN n:=by
 have ho:=aH (x / 2 ^ 6)(x * 2 ^ (32 - 6) % 4294967296)(Nat.lt_of_le_of_lt (Nat.div_le_self _ _) hx)(Nat.mod_lt _ (by decide));rw [Nat.or_comm] at ho;change _=(S.rot x 6:Int) at ho;generalize S.rot x 6=r at *;simp only [Int.natCast_emod,Int.natCast_mul,Int.natCast_ediv,Nat.reducePow,Nat.reduceSub,Int.cast_ofNat_Int] at ho;go_enter Tryz.func160,Tryz.ntmps160;go_wp2_with fail
 go_quiet (fail)
 go_wp2_with fail;go_ret;exact ⟨rfl,_,rfl⟩
theorem wQ (x:Nat)(w:World)(hx:x < 4294967296) :
  Calls Tryz.prog 160 #[.int .u32 (x:Int),.int .i64 11] w fun e w' => e=.returned (.int .u32 (S.rot x 11:Int))∧∃ n,w'=w.drewN n:=by
 have ho:=aH (x / 2 ^ 11)(x * 2 ^ (32 - 11) % 4294967296)(Nat.lt_of_le_of_lt (Nat.div_le_self _ _) hx)(Nat.mod_lt _ (by decide));rw [Nat.or_comm] at ho;change _=(S.rot x 11:Int) at ho;generalize S.rot x 11=r at *;simp only [Int.natCast_emod,Int.natCast_mul,Int.natCast_ediv,Nat.reducePow,Nat.reduceSub,Int.cast_ofNat_Int] at ho;go_enter Tryz.func160,Tryz.ntmps160;go_wp2_with fail
 go_quiet (fail)
 go_wp2_with fail;go_ret;exact ⟨rfl,_,rfl⟩
theorem wP (x:Nat)(w:World)(hx:x < 4294967296) :
  Calls Tryz.prog 160 #[.int .u32 (x:Int),.int .i64 13] w fun e w' => e=.returned (.int .u32 (S.rot x 13:Int))∧∃ n,w'=w.drewN n:=by
 have ho:=aH (x / 2 ^ 13)(x * 2 ^ (32 - 13) % 4294967296)(Nat.lt_of_le_of_lt (Nat.div_le_self _ _) hx)(Nat.mod_lt _ (by decide));rw [Nat.or_comm] at ho;change _=(S.rot x 13:Int) at ho;generalize S.rot x 13=r at *;simp only [Int.natCast_emod,Int.natCast_mul,Int.natCast_ediv,Nat.reducePow,Nat.reduceSub,Int.cast_ofNat_Int] at ho;go_enter Tryz.func160,Tryz.ntmps160;go_wp2_with fail
 go_quiet (fail)
 go_wp2_with fail;go_ret;exact ⟨rfl,_,rfl⟩
theorem wO (x:Nat)(w:World)(hx:x < 4294967296) :
  Calls Tryz.prog 160 #[.int .u32 (x:Int),.int .i64 22] w fun e w' => e=.returned (.int .u32 (S.rot x 22:Int))∧∃ n,w'=w.drewN n:=by
 have ho:=aH (x / 2 ^ 22)(x * 2 ^ (32 - 22) % 4294967296)(Nat.lt_of_le_of_lt (Nat.div_le_self _ _) hx)(Nat.mod_lt _ (by decide));rw [Nat.or_comm] at ho;change _=(S.rot x 22:Int) at ho;generalize S.rot x 22=r at *;simp only [Int.natCast_emod,Int.natCast_mul,Int.natCast_ediv,Nat.reducePow,Nat.reduceSub,Int.cast_ofNat_Int] at ho;go_enter Tryz.func160,Tryz.ntmps160;go_wp2_with fail
 go_quiet (fail)
 go_wp2_with fail;go_ret;exact ⟨rfl,_,rfl⟩
theorem wN (x:Nat)(w:World)(hx:x < 4294967296) :
  Calls Tryz.prog 160 #[.int .u32 (x:Int),.int .i64 25] w fun e w' => e=.returned (.int .u32 (S.rot x 25:Int))∧∃ n,w'=w.drewN n:=by
 have ho:=aH (x / 2 ^ 25)(x * 2 ^ (32 - 25) % 4294967296)(Nat.lt_of_le_of_lt (Nat.div_le_self _ _) hx)(Nat.mod_lt _ (by decide));rw [Nat.or_comm] at ho;change _=(S.rot x 25:Int) at ho;generalize S.rot x 25=r at *;simp only [Int.natCast_emod,Int.natCast_mul,Int.natCast_ediv,Nat.reducePow,Nat.reduceSub,Int.cast_ofNat_Int] at ho;go_enter Tryz.func160,Tryz.ntmps160;go_wp2_with fail
 go_quiet (fail)
 go_wp2_with fail;go_ret;exact ⟨rfl,_,rfl⟩
theorem FJ (x:Nat)(k:Int)(w:World)(hx:x < 4294967296)(hk:k=2 ∨ k=6 ∨ k=11 ∨ k=13 ∨ k=22 ∨ k=25) :
  Calls Tryz.prog 160 #[.int .u32 (x:Int),.int .i64 k] w fun e w' => e=.returned (.int .u32 (S.rot x k.toNat:Int))∧∃ n,w'=w.drewN n:=by
 rcases hk with rfl | rfl | rfl | rfl | rfl | rfl
 ·exact AE x w hx
 ·exact AD x w hx
 ·exact wQ x w hx
 ·exact wP x w hx
 ·exact wO x w hx
 ·exact wN x w hx
theorem RC (w:World)(a b:Nat):(w.drewN a).drewN b=w.drewN (a + b):=by
 unfold World.drewN; simp [Nat.add_assoc]
theorem lI (w0:World)(n:Nat)(x:Nat)(k:Int)(hx:x < 4294967296)(hk:k=2 ∨ k=6 ∨ k=11 ∨ k=13 ∨ k=22 ∨ k=25) :
  Calls Tryz.prog 160 #[.int .u32 (x:Int),.int .i64 k] (w0.drewN n) fun e w' => e=.returned (.int .u32 (S.rot x k.toNat:Int))∧∃ m,w'=w0.drewN m:=by
 refine (FJ x k _ hx hk).mono ?_;rintro e w' ⟨rfl,m,rfl⟩;exact ⟨rfl,_,RC _ _ _⟩
structure Tri (w w0:World)(gh gk:Nat)(L:List Nat):Prop where
 h:Arr 43 w gh L
 k:Arr 43 w gk S.KS
 below:Below w0.heap.size w0 w
 h0:w0.heap.size ≤ gh
 k0:w0.heap.size ≤ gk
 ne:gk ≠ gh
theorem Tri.then {w w' w0:World} {gh gk:Nat} {L:List Nat} (t:Tri w w0 gh gk L)(b:Below w.heap.size w w'):Tri w' w0 gh gk L :=
 ⟨t.h.below b,t.k.below b,chain t.below b,t.h0,t.k0,t.ne⟩
theorem Tri.drew {w w0:World} {gh gk:Nat} {L:List Nat} (t:Tri w w0 gh gk L):Tri w.drew w0 gh gk L:=⟨t.h,t.k,t.below.drew,t.h0,t.k0,t.ne⟩
theorem Tri.set {w w0:World} {gh gk:Nat} {L:List Nat} (t:Tri w w0 gh gk L)(j v:Nat):Tri (w.setCell ⟨gh,j,none⟩ (.int .u32 (v:Int))) w0 gh gk (L.set j v) :=
 ⟨t.h.set j v,t.k.other _ _ t.ne,t.below.setCell t.h0 _,t.h0,t.k0,t.ne⟩
theorem AY (s:ByteArray)(hz:s.size ≤ 1000000):(S.padded s.data.toList).length % 64=0∧(S.padded s.data.toList).length ≤ 1000128:=by
 have h:=uT s.data.toList _ rfl
 have hl:(S.padded s.data.toList).length=s.data.toList.length / 64 * 64 + (S.tail (s.data.toList.drop (s.data.toList.length / 64 * 64)) s.data.toList.length).length:=by
  unfold S.padded;rw [List.length_append,List.length_take];omega
 have hs:s.data.toList.length=s.size:=by simp
 omega
def Vs (gh:Nat)(w:World)(v:Value)(l:List Nat):Prop:=∃ gv cap,v=.slice (some ⟨gv,0,none⟩) 8 cap∧gh < gv∧gv < w.heap.size∧∀ j (h:j < l.length),w.cell? ⟨gv,j,none⟩=some (.int .u32 ((l[j]:Nat):Int))
def Ws (w:World)(gw:Nat)(W:List Nat):Prop:=gw < w.heap.size∧∀ j (h:j < W.length),w.cell? ⟨gw,j,none⟩=some (.int .u32 ((W[j]:Nat):Int))
theorem Ws.below {w w' : World} {gw:Nat} {W:List Nat} (h:Ws w gw W)(b:Below w.heap.size w w'):Ws w' gw W :=
 ⟨Nat.lt_of_lt_of_le h.1 b.size,fun j hj=>(b.cell (p:=⟨gw,j,none⟩) h.1).trans (h.2 j hj)⟩
theorem be4 (x:Nat):M.be 4 x=[UInt8.ofNat (x / 256 ^ 3 % 256),UInt8.ofNat (x / 256 ^ 2 % 256),UInt8.ofNat (x / 256 ^ 1 % 256),UInt8.ofNat (x / 256 ^ 0 % 256)]:=by
 apply List.ext_getElem?;intro i
 rcases (by omega:i=0 ∨ i=1 ∨ i=2 ∨ i=3 ∨ 4 ≤ i) with rfl | rfl | rfl | rfl | h
 ·rw [M.be_get 4 x 0 (by decide)]; rfl
 ·rw [M.be_get 4 x 1 (by decide)]; rfl
 ·rw [M.be_get 4 x 2 (by decide)]; rfl
 ·rw [M.be_get 4 x 3 (by decide)]; rfl
 ·rw [List.getElem?_eq_none (by rw [M.be_length]; exact h),List.getElem?_eq_none (by simpa using h)]
theorem CI (w:World)(a b c d:UInt8)(T:TypeId):∀ j u,[vby a,vby b,vby c,vby d][j]?=some u → (w.alloc (.cells #[vby a,vby b,vby c,vby d] T)).cell? ((⟨w.heap.size,0,none⟩:Addr).add j)=some u:=by
 intro j u hj;rw [bU,World.cell?_alloc_new]
 match j,hj with
 | 0,hj=>simpa using hj
 | 1,hj=>simpa using hj
 | 2,hj=>simpa using hj
 | 3,hj=>simpa using hj
def GH (F:List Nat)(k:Nat):List UInt8:=((F.take k).map (M.be 4)).flatten
theorem OS (F:List Nat)(k x:Nat)(h:F[k]?=some x):GH F (k + 1)=GH F k ++ M.be 4 x:=by
 unfold GH;rw [List.take_add_one,h];simp
theorem aC1 (gh:Nat)(w:World)(l:List Nat)(h:gh < w.heap.size):Vs gh (w.alloc (.cells (U l) 43))(.slice (some ⟨w.heap.size,0,none⟩) 8 8) l :=
 ⟨w.heap.size,8,rfl,h,by simp,fun j hj=>(Arr.new w l).cell j hj⟩
theorem OH (s t:S.St):S.plus s t=S.plus t s:=by
 unfold S.plus S.add;simp only [Nat.add_comm]
theorem zV (s:ByteArray)(hz:s.size ≤ 1000000)(w:World)(P:List UInt8)(pb:ByteArray)(hP:Hid (S.padded s.data.toList=P))(hpb:Hid (Str P=pb))(L:List UInt8)(HL:Hid (S.sum s.data.toList=L)) :
  Calls Tryz.prog 132 #[.string s] w fun e w' => e=.returned (.string (Str L))∧Below w.heap.size w w' := by
 obtain ⟨i0,hi,hz0,hz1,hz2⟩:=info_parts BZ;go_enter Tryz.func132,Tryz.ntmps132;try simp only [List.append_eq,List.cons_append,List.nil_append]
 go_wp2_with fail;refine (wR _).mono ?_;rintro e w1 ⟨gh,rfl,ah,h0,b1⟩;go_wp2_with fail;refine (wL _).mono ?_;rintro e w2 ⟨gk,rfl,ak,k0,b2⟩;have hne:gk ≠ gh:=by have:=ah.lt; omega
 have T2:Tri w2 w gh gk S.HS.list:=⟨ah.below b2,ak,chain b1 b2,h0,Nat.le_trans b1.size k0,hne⟩
 clear ah ak b1 b2 h0 k0 hne;go_wp2_with fail;refine (uC _ _ (by omega)).mono ?_;rw [hP.out,hpb.out];rintro e w3 ⟨rfl,b3⟩;have T3:=Hd (T2.then b3);clear T2 b3
 obtain ⟨hm,hmax⟩:pb.size % 64=0∧pb.size ≤ 1000128:=by
  rw [← hpb.out,aK,← hP.out];exact AY s hz
 go_wp2_with fail;obtain ⟨N,hN⟩:∃ N,pb.size=64 * N:=⟨pb.size / 64,by omega⟩
 have hPd:Hid (pb.data.toList=P):=Hd (by rw [← hpb.out,aP]);have hPN:Hid (P.length / 64=N):=Hd (by rw [← hPd.out]; simp; omega);have hT0:Hid (Tri w3 w gh gk (SB P 0)):=T3;clear T3 hm;have hszi:(pb.size:Int)=64 * (N:Int):=by omega
 have hN1:N ≤ 15627:=by omega
 clear hmax hN
 go_loopw [6] (fun i wr=>∃ n:Nat,n ≤ N∧i=.int .i64 (64 * (n:Int))∧Hid (Tri wr w gh gk (SB P n)))(fun i _=>64 * N + 1 - (intOf i).toNat)
 case atStart=>exact ⟨0,by omega,rfl,hT0⟩
 clear hT0
 case round =>
  obtain ⟨n,hn,rfl,HT⟩:=hrel
  by_cases hlt:n < N
  ·have hli:64 * (n:Int) < (pb.size:Int):=by omega
   have e1:(64 * (n:Int)).toNat=64 * n:=by omega
   have e2:(64 * (n:Int) + 64).toNat=64 * n + 64:=by omega
   have hblk:Hid ((pb.extract (64 * n)(64 * n + 64)).data.toList=(P.drop (64 * n)).take 64):=Hd (by
    rw [ByteArray.data_extract,Array.toList_extract,List.extract_eq_take_drop,hPd.out]
    congr 1
    omega)
   have hbs:Hid ((pb.extract (64 * n)(64 * n + 64)).size=64):=Hd (by rw [ByteArray.size_extract]; omega);go_wp2_with fail;generalize pb.extract (64 * n)(64 * n + 64)=blk at *;refine (uB blk _ hbs.out).mono ?_;rw [hblk.out];have hWl:=S.wds_length ((P.drop (64 * n)).take 64) 64;have hstepN:Hid (SB P (n + 1)=(S.plus (S.steps S.KS (S.wds ((P.drop (64 * n)).take 64) 64)(S.blocks P n) 64)(S.blocks P n)).list):=Hd rfl;generalize S.wds ((P.drop (64 * n)).take 64) 64=W at *;rintro e w4 hsp;unfold SPr at hsp;obtain ⟨gw,capw,rfl,hgw0,hgw,hcw,b4⟩:=hsp
   have HT4:=Hd (HT.out.then b4);have HW4:Hid (Ws w4 gw W):=Hd ⟨hgw,hcw⟩;clear HT b4 hcw hgw hgw0 hbs hblk e1 e2;have hL8:(SB P n).length=8:=rfl;have hL0:Hid (SB P n=(S.blocks P n).list):=Hd rfl;have hOK:=Hd (pY P n);generalize S.blocks P n=st at *;generalize SB P n=L0 at *
   go_wp2_with (at_builtin; refine wpList_append_own _ rfl _ _ 230 rfl w4.heap.size 43 i0 (.int .u32 0) 1 4 Tryz.underlying230 hi hz0 hz1 hz2 rfl (by decide)(.slice none 0 0) 0 [] rfl (World.ownsRow_nil _ _ _ _) ⟨gh,0,none⟩ 8 8 (L0.map vw) rfl (by rw [List.length_map,hL8]) ?c1 ?c2 ?c3 ?c4 ?c5 ?_)
   case c1 =>
    intro j u hj;rw [List.getElem?_map] at hj
    cases hq:L0[j]? with
    | none=>rw [hq] at hj; cases hj
    | some x =>
     rw [hq] at hj;obtain ⟨hj', rfl⟩:=List.getElem?_eq_some_iff.1 hq;rw [bU,Nat.zero_add,HT4.out.h.cell j hj'];exact hj
   case c2 =>
    intro u hu;obtain ⟨x,_,rfl⟩:=List.mem_map.1 hu
    rfl
   case c3=>unfold maxLen; omega
   case c4=>omega
   case c5=>exact Nat.le_refl _
   intro v' w5 hown' hgrow _;have hgh4:=HT4.out.h.lt;have b5:Below w4.heap.size w4 w5:=Br.grown hgrow (Nat.le_refl _)(fun k h=>by cases h);have HT5:=Hd (HT4.out.then b5);have HW5:=Hd (HW4.out.below b5)
   have HV5:Hid (Vs gh w5 v' L0):=Hd (by
    obtain ⟨gv,cap,hv,hc⟩:=pM hown' (by omega) hL8;have hlt2:=hown'.lt gv (by rw [hv]; rfl);exact ⟨gv,cap,hv,Nat.lt_of_lt_of_le hgh4 hlt2.1,hlt2.2,hc⟩)
   clear hown' hgrow b5 HT4 HW4 hgh4;obtain ⟨gv,capv,rfl,-,-,-⟩:=HV5.out;go_wp2_with fail
   go_loopw [8,9] (fun v i wr2=>∃ m:Nat,m ≤ 64∧i=.int .i64 (m:Int)∧Hid (Vs gh wr2 v (S.steps S.KS W st m).list)∧Hid (Tri wr2 w gh gk L0)∧Hid (Ws wr2 gw W))(fun _ i _=>65 - (intOf i).toNat)
   case atStart=>exact ⟨0,by omega,rfl,Hd (by have:=HV5.out; rw [hL0.out] at this; exact this),HT5,HW5⟩
   clear HV5 HT5 HW5
   case round =>
    obtain ⟨m,hm,rfl,HV,HT,HW⟩:=hrel
    by_cases hlt2:m < 64
    ·have hli2:(m:Int) < 64:=by omega
     have hok:=S.steps_ok S.KS W st m hOK.out;have NXT:S.steps S.KS W st (m + 1)=S.step (S.steps S.KS W st m)(S.KS.getD m 0)(W.getD m 0):=rfl;obtain ⟨gv,cap,rfl,hghv,hgv,hcv⟩:=HV.out;generalize S.steps S.KS W st m=q at *;obtain ⟨ta,tb,tc,td,te,tf,tg,th⟩:=q;obtain ⟨oa,ob,oc,od,oe,of', og,oh⟩:=hok;simp only at oa ob oc od oe of' og oh;have c0:wr.cell? ⟨gv,0,none⟩=some (.int .u32 ((ta:Nat):Int)):=hcv 0 (by simp [S.St.list]);have c1:wr.cell? ⟨gv,1,none⟩=some (.int .u32 ((tb:Nat):Int)):=hcv 1 (by simp [S.St.list])
     have c2:wr.cell? ⟨gv,2,none⟩=some (.int .u32 ((tc:Nat):Int)):=hcv 2 (by simp [S.St.list]);have c3:wr.cell? ⟨gv,3,none⟩=some (.int .u32 ((td:Nat):Int)):=hcv 3 (by simp [S.St.list]);have c4:wr.cell? ⟨gv,4,none⟩=some (.int .u32 ((te:Nat):Int)):=hcv 4 (by simp [S.St.list]);have c5:wr.cell? ⟨gv,5,none⟩=some (.int .u32 ((tf:Nat):Int)):=hcv 5 (by simp [S.St.list]);have c6:wr.cell? ⟨gv,6,none⟩=some (.int .u32 ((tg:Nat):Int)):=hcv 6 (by simp [S.St.list])
     have c7:wr.cell? ⟨gv,7,none⟩=some (.int .u32 ((th:Nat):Int)):=hcv 7 (by simp [S.St.list]);have ck:=HT.out.k.cell m (by rw [show S.KS.length=64 from rfl]; exact hlt2);have cw:=HW.out.2 m (by omega);have ek:S.KS.getD m 0=S.KS[m]'(by rw [show S.KS.length=64 from rfl]; exact hlt2):=by rw [List.getD_eq_getElem?_getD,List.getElem?_eq_getElem (by rw [show S.KS.length=64 from rfl]; exact hlt2)]; rfl
     have ew:W.getD m 0=W[m]'(by omega):=by rw [List.getD_eq_getElem?_getD,List.getElem?_eq_getElem (by omega)]; rfl
     rw [ek,ew] at NXT;generalize S.KS[m]'(by rw [show S.KS.length=64 from rfl]; exact hlt2)=kv at *;generalize W[m]'(by omega)=wv at *;clear ek ew hlt2 hcv HV;have NX:=Hd NXT;clear NXT;have hkl:(S.KS.length)=64:=rfl;clear hkl;go_wp2_with fail
     go_quiet ((go_at_call 160; exact lI _ _ _ _ oe (by omega)))
     obtain ⟨wq,hwq⟩:∃ wq,wr.drewN nq=wq:=⟨_,rfl⟩
     rw [hwq]
     replace c0:wq.cell? ⟨gv,0,none⟩=some (.int .u32 ((ta:Nat):Int)):=by rw [← hwq]; exact c0
     replace c1:wq.cell? ⟨gv,1,none⟩=some (.int .u32 ((tb:Nat):Int)):=by rw [← hwq]; exact c1
     replace c2:wq.cell? ⟨gv,2,none⟩=some (.int .u32 ((tc:Nat):Int)):=by rw [← hwq]; exact c2
     replace c3:wq.cell? ⟨gv,3,none⟩=some (.int .u32 ((td:Nat):Int)):=by rw [← hwq]; exact c3
     replace c4:wq.cell? ⟨gv,4,none⟩=some (.int .u32 ((te:Nat):Int)):=by rw [← hwq]; exact c4
     replace c5:wq.cell? ⟨gv,5,none⟩=some (.int .u32 ((tf:Nat):Int)):=by rw [← hwq]; exact c5
     replace c6:wq.cell? ⟨gv,6,none⟩=some (.int .u32 ((tg:Nat):Int)):=by rw [← hwq]; exact c6
     replace c7:wq.cell? ⟨gv,7,none⟩=some (.int .u32 ((th:Nat):Int)):=by rw [← hwq]; exact c7
     replace HT:Hid (Tri wq w gh gk L0):=Hd (by rw [← hwq]; exact HT.out.then (aD Br _))
     replace HW:Hid (Ws wq gw W):=Hd (by rw [← hwq]; exact HW.out.below (aD Br _))
     clear hwq ck cw;have hT:=JY ⟨ta,tb,tc,td,te,tf,tg,th⟩ kv wv oe of' og;have hU:=JW ⟨ta,tb,tc,td,te,tf,tg,th⟩ oa ob oc;have hstep:S.step ⟨ta,tb,tc,td,te,tf,tg,th⟩ kv wv=⟨S.add (S.t1 ⟨ta,tb,tc,td,te,tf,tg,th⟩ kv wv)(S.t2 ⟨ta,tb,tc,td,te,tf,tg,th⟩),ta,tb,tc,S.add td (S.t1 ⟨ta,tb,tc,td,te,tf,tg,th⟩ kv wv),te,tf,tg⟩:=rfl;generalize S.t1 ⟨ta,tb,tc,td,te,tf,tg,th⟩ kv wv=T1 at *;generalize S.t2 ⟨ta,tb,tc,td,te,tf,tg,th⟩=T2 at *;simp only at hT hU
     have hT' : ((((th:Int) + bits .xor .u32 (bits .xor .u32 (S.rot te 6:Int)(S.rot te 11:Int))(S.rot te 25:Int) + bits .xor .u32 (bits .and .u32 (te:Int)(tf:Int))(bits .and .u32 (bits .xor .u32 (if IntKind.u32.signed=true then -1 else IntKind.u32.max)(te:Int))(tg:Int)) + (kv:Int)) % 4294967296 + (wv:Int)) % 4294967296)=(T1:Int):=by
      rw [show (if IntKind.u32.signed=true then (-1:Int) else IntKind.u32.max)=IntKind.u32.max from rfl,← hT];omega
     rw [hT'];clear hT';have HU:=Hd hU;have NX2:=Hd (NX.out.trans hstep);have g1:=cO T1 T2;have g2:=cO td T1;clear hT hU hstep NX;generalize S.add T1 T2=q1 at *;generalize S.add td T1=q2 at *;go_wp2_with fail
     go_quiet ((go_at_call 160; exact lI _ _ _ _ oa (by omega)))
     rw [HU.out];obtain ⟨wz,hwz⟩:∃ wz,wq.drewN nq=wz:=⟨_,rfl⟩
     rw [hwz]
     replace c1:wz.cell? ⟨gv,1,none⟩=some (.int .u32 ((tb:Nat):Int)):=by rw [← hwz]; exact c1
     replace c2:wz.cell? ⟨gv,2,none⟩=some (.int .u32 ((tc:Nat):Int)):=by rw [← hwz]; exact c2
     replace c3:wz.cell? ⟨gv,3,none⟩=some (.int .u32 ((td:Nat):Int)):=by rw [← hwz]; exact c3
     replace c5:wz.cell? ⟨gv,5,none⟩=some (.int .u32 ((tf:Nat):Int)):=by rw [← hwz]; exact c5
     replace c6:wz.cell? ⟨gv,6,none⟩=some (.int .u32 ((tg:Nat):Int)):=by rw [← hwz]; exact c6
     replace HT:Hid (Tri wz w gh gk L0):=Hd (by rw [← hwz]; exact HT.out.then (aD Br _))
     replace HW:Hid (Ws wz gw W):=Hd (by rw [← hwz]; exact HW.out.below (aD Br _))
     obtain ⟨-,g1w⟩:=g1;obtain ⟨-,g2w⟩:=g2;clear hwz HU c0 c4 c7;have hb0:Below wz.heap.size wz (wz.drew.alloc (.cells (U [q1,ta,tb,tc,q2,te,tf,tg]) 43)):=(Br.drew).alloc (Nat.le_refl _) _;have FT:Hid (Tri (wz.drew.alloc (.cells (U [q1,ta,tb,tc,q2,te,tf,tg]) 43)) w gh gk L0):=Hd (HT.out.then hb0);have FW:Hid (Ws (wz.drew.alloc (.cells (U [q1,ta,tb,tc,q2,te,tf,tg]) 43)) gw W):=Hd (HW.out.below hb0)
     have FV:Hid (Vs gh (wz.drew.alloc (.cells (U [q1,ta,tb,tc,q2,te,tf,tg]) 43))(.slice (some ⟨wz.heap.size,0,none⟩) 8 8)(S.steps S.KS W st (m + 1)).list):=Hd (by
      rw [NX2.out];exact aC1 gh wz.drew [q1,ta,tb,tc,q2,te,tf,tg] HT.out.h.lt)
     clear hb0 HT HW NX2 oa ob oc od oe of' og oh;go_wp2_with fail;refine wp_region_still_tail 22 (by kernel_rfl)(by kernel_rfl) ?_;simp only [List.take_succ_cons,List.take_zero,List.drop_succ_cons,List.drop_zero]
     repeat still_step
     refine wpStill_nil ?_;change wpList _ _ _ _ _ wz.drew;go_wp2_with fail;go_roundw
     case rel=>exact ⟨m + 1,by omega,by go_num,FV,FT,FW⟩
     case measure=>simp [intOf]; omega
    ·obtain rfl:m=64:=by omega
     have hli2:¬ (((64:Nat):Int) < 64):=by omega
     clear hlt2 hm;obtain ⟨gv,cap,rfl,hghv,hgv,hcv⟩:=HV.out;have hfin:Hid (SB P (n + 1)=(S.plus (S.steps S.KS W st 64) st).list):=hstepN;generalize S.steps S.KS W st 64=fin at *;have HV2:Hid (gv < wr.heap.size∧∀ j (h:j < fin.list.length),wr.cell? ⟨gv,j,none⟩=some (.int .u32 ((fin.list[j]:Nat):Int))):=Hd ⟨hgv,hcv⟩;clear hcv HV HW;go_wp2_with fail;have hHT:Hid (Tri wr w gh gk (fI L0 fin.list 0)):=HT
     go_loopw [14] (fun i wr2=>∃ m:Nat,m ≤ 8∧i=.int .i64 (m:Int)∧Hid (Tri wr2 w gh gk (fI L0 fin.list m))∧Hid (gv < wr2.heap.size∧∀ j (h:j < fin.list.length),wr2.cell? ⟨gv,j,none⟩=some (.int .u32 ((fin.list[j]:Nat):Int))))(fun i _=>9 - (intOf i).toNat)
     case atStart=>exact ⟨0,by omega,rfl,hHT,HV2⟩
     clear HV2 hHT HT
     case round =>
      obtain ⟨m,hm,rfl,HT,HV⟩:=hrel
      by_cases hlt3:m < 8
      ·have hli3:(m:Int) < 8:=by omega
       have hl8:m < (fI L0 fin.list m).length:=by rw [oI,hL8]; exact hlt3
       have hls:m < fin.list.length:=hlt3;have ch:=HT.out.h.cell m hl8;have fh:=HT.out.h.free m;have cv:=HV.out.2 m hls;have e8:(fI L0 fin.list m)[m]=L0.getD m 0:=sQ _ _ m hl8;have e3:fin.list[m]=fin.list.getD m 0:=by rw [List.getD_eq_getElem?_getD,List.getElem?_eq_getElem hls]; rfl
       rw [e8] at ch;rw [e3] at cv;have ST:Hid (fI L0 fin.list (m + 1)=(fI L0 fin.list m).set m (S.add (L0.getD m 0)(fin.list.getD m 0))):=Hd rfl;have A:=(cO (L0.getD m 0)(fin.list.getD m 0)).2;have FT:=Hd (HT.out.set m (S.add (L0.getD m 0)(fin.list.getD m 0)));rw [← ST.out] at FT
       have FV:Hid (gv < (wr.setCell ⟨gh,m,none⟩ (.int .u32 ((S.add (L0.getD m 0)(fin.list.getD m 0):Nat):Int))).heap.size∧∀ j (h:j < fin.list.length),(wr.setCell ⟨gh,m,none⟩ (.int .u32 ((S.add (L0.getD m 0)(fin.list.getD m 0):Nat):Int))).cell? ⟨gv,j,none⟩=some (.int .u32 ((fin.list[j]:Nat):Int))):=Hd ⟨by simpa [World.setCell] using HV.out.1,fun j hj=>by
        rw [World.cell?_setCell_other _ _ _ _ (by intro he; injection he with he _; omega)];exact HV.out.2 j hj⟩
       generalize S.add (L0.getD m 0)(fin.list.getD m 0)=r at *;generalize L0.getD m 0=x at *;generalize fin.list.getD m 0=y at *;clear e8 e3 hl8 hls HT HV ST;go_wp2_with fail;refine wp_region_still_tail 12 (by kernel_rfl)(by kernel_rfl) ?_;simp only [List.take_succ_cons,List.take_zero,List.drop_succ_cons,List.drop_zero]
       repeat still_step
       refine wpStill_nil ?_;change wpList _ _ _ _ _ wr.drew;go_wp2_with fail;go_roundw
       case rel=>exact ⟨m + 1,by omega,by go_num,Hd FT.out.drew,Hd FV.out⟩
       case measure=>simp [intOf]; omega
      ·obtain rfl:m=8:=by omega
       have hli3:¬ (((8:Nat):Int) < 8):=by omega
       have FIN:Hid (Tri wr w gh gk (SB P (n + 1))):=Hd (by
        have h:=HT.out;rw [hL0.out,KR,OH,← hfin.out] at h;exact h)
       clear HT HV;go_wp2_with fail;go_roundw
       case rel=>exact ⟨n + 1,by omega,by go_num,FIN⟩
       case measure=>simp [intOf]; omega
  ·obtain rfl:n=N:=by omega
   have hli:¬ (64 * (n:Int) < (pb.size:Int)):=by omega
   clear hlt;obtain ⟨j0,hj,hjz0,hjz1,hjz2⟩:=info_parts QD
   have hFL:Hid (GH (SB P n) 8=L):=Hd (by
    rw [← HL.out];unfold GH S.sum S.digest;rw [hP.out,hPN.out]
    rfl)
   have hF8:(SB P n).length=8:=rfl;have hFlt:=Hd (aCA P n);generalize SB P n=F at *;go_wp2_with fail;generalize hW0:wr=W0 at *;clear hW0
   go_loopw [15,16] (fun v i wr2=>∃ k:Nat,k ≤ 8∧i=.int .i64 (k:Int)∧Hid (wr2.ownsRow W0.heap.size 5 1 v (4 * k)((GH F k).map vby))∧Hid (Below W0.heap.size W0 wr2))(fun _ i _=>9 - (intOf i).toNat)
   case atStart=>exact ⟨0,by omega,rfl,Hd (World.ownsRow_nil _ _ _ _),Hd Br⟩
   case round =>
    obtain ⟨k,hk,rfl,HO,HB⟩:=hrel
    by_cases hlt4:k < 8
    ·have hli4:(k:Int) < 8:=by omega
     have hkF:k < F.length:=by omega
     have cx:=(HT.out.h.below HB.out).cell k hkF;have hx:=hFlt.out F[k] (List.getElem_mem hkF);have ST:=Hd (OS F k F[k] (List.getElem?_eq_getElem hkF));generalize F[k]=x at *;rw [be4] at ST;have y0:IntKind.u8.wrap ((x:Int) / 16777216)=(((UInt8.ofNat (x / 256 ^ 3 % 256)).toNat:Nat):Int):=by rw [IntKind.wrap_u8,cT _ (by omega)]; omega
     have y1:IntKind.u8.wrap ((x:Int) / 65536)=(((UInt8.ofNat (x / 256 ^ 2 % 256)).toNat:Nat):Int):=by rw [IntKind.wrap_u8,cT _ (by omega)]; omega
     have y2:IntKind.u8.wrap ((x:Int) / 256)=(((UInt8.ofNat (x / 256 ^ 1 % 256)).toNat:Nat):Int):=by rw [IntKind.wrap_u8,cT _ (by omega)]; omega
     have y3:IntKind.u8.wrap (x:Int)=(((UInt8.ofNat (x / 256 ^ 0 % 256)).toNat:Nat):Int):=by rw [IntKind.wrap_u8,cT _ (by omega)]; omega
     generalize UInt8.ofNat (x / 256 ^ 3 % 256)=d0 at *;generalize UInt8.ofNat (x / 256 ^ 2 % 256)=d1 at *;generalize UInt8.ofNat (x / 256 ^ 1 % 256)=d2 at *;generalize UInt8.ofNat (x / 256 ^ 0 % 256)=d3 at *;clear hkF hx;go_wp2_with fail
     go_region_law (refine gW rfl (.tmp 151)(.tmp 175) 31 rfl W0.heap.size 5 j0 (.int .u8 0) 1 1 Tryz.underlying31 hj hjz0 hjz1 hjz2 rfl (by decide) _ (4 * k) _ rfl (HO.out.alloc _) ⟨wr.heap.size,0,none⟩ 4 4 [vby d0,vby d1,vby d2,vby d3] rfl rfl (CI wr d0 d1 d2 d3 _)(by intro u hu; simp at hu; rcases hu with rfl | rfl | rfl | rfl <;> rfl)(by unfold maxLen; omega)(by omega)(by have:=HB.out.size; simp; omega) ?_; intro v' w' hown' hgrow _)
     all_goals
      have HB2:Hid (Below W0.heap.size W0 w'):=Hd ((((HB.out.alloc HB.out.size _).drew)).grown hgrow (by have:=HB.out.size; simp; omega)(fun g hg=>(HO.out.lt g hg).1));have HO2:Hid (w'.ownsRow W0.heap.size 5 1 v' (4 * (k + 1))((GH F (k + 1)).map vby)):=Hd (by rw [ST.out,List.map_append]; exact hown');clear hown' hgrow;go_wp2_with fail;go_roundw
      case rel=>exact ⟨k + 1,by omega,by go_num,HO2,HB2⟩
      case measure=>simp [intOf]; omega
    ·obtain rfl:k=8:=by omega
     have hli4:¬ (((8:Nat):Int) < 8):=by omega
     have hcv:=tT L (by
      have ho:=HO.out;rw [hFL.out] at ho;exact ho)
     have hfb:=Hd (chain HT.out.below HB.out);clear HO HB HT;go_wp2_with fail;go_ret;exact ⟨rfl,hfb.out⟩
theorem jT (s:ByteArray)(w:World)(hz:s.size ≤ 1000000) :
  Calls Tryz.prog 132 #[.string s] w fun e w' => e=.returned (.string (pG s))∧Below w.heap.size w w' :=
 zV s hz w _ _ (Hd rfl)(Hd rfl) _ (Hd rfl)
theorem AI (key s k ko ki si m:ByteArray)(w:World)(hk:key.size ≤ 300)(hs:s.size ≤ 300)(HK:Hid (jX key=k))(hk64:k.size ≤ 64)
  (HO:Hid (mL k 0x5c=ko))(HI:Hid (mL k 0x36=ki))(HS:Hid (pG (ki ++ s)=si))(HM:Hid (pG (ko ++ si)=m))(ho:ko.size=64)(hi:ki.size=64)(hsi:si.size=32) :
  Calls Tryz.prog 110 #[.string key,.string s] w fun e w' => e=.returned (.string m)∧Below w.heap.size w w' := by
 by_cases h64:64 < key.size
 ·have hl:64 < (key.size:Int):=by omega
  have HK2:Hid (pG key=k):=Hd (by have:=HK.out; unfold jX at this; rwa [if_pos h64] at this);go_enter Tryz.func110,Tryz.ntmps110;go_wp2_with fail;refine (jT _ _ (by omega)).mono ?_;rw [HK2.out];rintro e w3 ⟨rfl,bb⟩;go_wp2_with fail;refine (iD k 0x5c 92 rfl _ hk64).mono ?_;rw [HO.out];rintro e w3 ⟨rfl,b3⟩
  replace bb:=chain bb b3
  clear b3;go_wp2_with fail;refine (iD k 0x36 54 rfl _ hk64).mono ?_;rw [HI.out];rintro e w3 ⟨rfl,b3⟩
  replace bb:=chain bb b3
  clear b3;go_wp2_with fail;refine (jT _ _ (by rw [ByteArray.size_append]; omega)).mono ?_;rw [HS.out];rintro e w3 ⟨rfl,b3⟩
  replace bb:=chain bb b3
  clear b3;go_wp2_with fail;refine (jT _ _ (by rw [ByteArray.size_append]; omega)).mono ?_;rw [HM.out];rintro e w3 ⟨rfl,b3⟩
  replace bb:=chain bb b3
  clear b3;go_wp2_with fail;go_ret;exact ⟨rfl,bb⟩
 ·have hl:(key.size:Int) ≤ 64:=by omega
  have HK2:key=k:=by have:=HK.out; unfold jX at this; rwa [if_neg h64] at this
  subst HK2;go_enter Tryz.func110,Tryz.ntmps110;go_wp2_with fail;refine (iD key 0x5c 92 rfl _ hk64).mono ?_;rw [HO.out];rintro e w3 ⟨rfl,bb⟩;go_wp2_with fail;refine (iD key 0x36 54 rfl _ hk64).mono ?_;rw [HI.out];rintro e w3 ⟨rfl,b3⟩
  replace bb:=chain bb b3
  clear b3;go_wp2_with fail;refine (jT _ _ (by rw [ByteArray.size_append]; omega)).mono ?_;rw [HS.out];rintro e w3 ⟨rfl,b3⟩
  replace bb:=chain bb b3
  clear b3;go_wp2_with fail;refine (jT _ _ (by rw [ByteArray.size_append]; omega)).mono ?_;rw [HM.out];rintro e w3 ⟨rfl,b3⟩
  replace bb:=chain bb b3
  clear b3;go_wp2_with fail;go_ret;exact ⟨rfl,bb⟩
theorem NW (key s:ByteArray)(w:World)(hk:key.size ≤ 300)(hs:s.size ≤ 300) :
  Calls Tryz.prog 110 #[.string key,.string s] w fun e w' => e=.returned (.string (BI key s))∧Below w.heap.size w w' :=
 AI key s _ _ _ _ _ w hk hs (Hd rfl)(gC _)(Hd rfl)(Hd rfl)(Hd rfl)(Hd rfl)(kH _ _ (gC _))(kH _ _ (gC _))(mA _)
theorem uZ (key s:ByteArray)(w:World)(hk:key.size ≤ 300)(hs:s.size ≤ 300) :
  Calls Tryz.prog 68 #[.string key,.string s] w fun e w' => e=.returned (.string ((BI key s).extract 0 16))∧Below w.heap.size w w' := by
 have hm:=pS key s;have HM:=Hd (NW key s w hk hs);generalize BI key s=m at *;go_enter Tryz.func68,Tryz.ntmps68;go_wp2_with fail;refine HM.out.mono ?_;rintro e w3 ⟨rfl,b3⟩;go_wp2_with fail;go_ret;exact ⟨rfl,b3⟩
open Go Go.RowKit
theorem qY (n size:Int)(x:ByteArray)(w:World)(h0:0 ≤ n)(hm:n ≤ 18446744073709551615)(hx:Str (aL n size)=x) :
  Calls Tryz.prog 109 #[.int .u64 n,.int .i64 size] w fun e w' => e=.returned (.string x)∧Below w.heap.size w w' := by
 have HX:=Hd hx;clear hx;go_enter Tryz.func109,Tryz.ntmps109;go_wp2_with fail;refine (FP _ _ _ h0 hm).mono ?_;rw [HX.out];rintro e w1 ⟨rfl,b1⟩;go_wp2_with fail;go_ret;exact ⟨rfl,b1⟩
theorem sO (s ep nn k:Int)(v:ByteArray)(w:World)(hk:fF s ep k=true)(n0:0 ≤ nn)(n1:nn ≤ 18446744073709551615)(hv:hB s ep nn k=v) :
  Calls Tryz.prog 67 #[.agg #[.int .i64 s,.int .i64 ep,.int .u64 nn,.int .i64 k]] w fun e w' => e=.returned (.tuple #[.string v,.bool true])∧Below w.heap.size w w' := by
 have hi:=wY hk;obtain ⟨p0,p1,p2,p3⟩:=wZ hk n0 n1;have g0:=cF p0.1;have g1:=cF p1.1;have g2:=cF p2.1;have g3:=cF p3.1;unfold hB at hv;obtain ⟨x,hx⟩:∃ x,Str (aL s 2)=x:=⟨_,rfl⟩
 obtain ⟨y,hy⟩:∃ x,Str (aL ep 1)=x:=⟨_,rfl⟩
 obtain ⟨z,hz⟩:∃ x,Str (aL nn 8)=x:=⟨_,rfl⟩
 obtain ⟨u,hu⟩:∃ x,Str (aL k 2)=x:=⟨_,rfl⟩
 rw [hx,hy,hz,hu] at hv;rw [hx] at g0;rw [hy] at g1;rw [hz] at g2;rw [hu] at g3;have Hx:=Hd hx;have Hy:=Hd hy;have Hz:=Hd hz;have Hq:=Hd hu;have HV:=Hd hv;have e1:IntKind.u64.wrap s=s:=IntWalk.u64_in _ (by omega);have e2:IntKind.u64.wrap ep=ep:=IntWalk.u64_in _ (by omega);have e3:IntKind.u64.wrap k=k:=IntWalk.u64_in _ (by omega);have s1:(9223372036854775807 < x.size + y.size)=False:=by rw [eq_iff_iff,iff_false]; omega
 have s2:(9223372036854775807 < x.size + y.size + z.size)=False:=by rw [eq_iff_iff,iff_false]; omega
 have s3:(9223372036854775807 < x.size + y.size + z.size + u.size)=False:=by rw [eq_iff_iff,iff_false]; omega
 have t1:(x ++ y).size=x.size + y.size:=ByteArray.size_append;have t2:(x ++ y ++ z).size=x.size + y.size + z.size:=by rw [ByteArray.size_append,t1]
 obtain ⟨x1,hx1⟩:∃ x1,w.alloc (.cells #[.int .i64 s,.int .i64 ep,.int .u64 nn,.int .i64 k] 48)=x1:=⟨_,rfl⟩
 obtain ⟨q1,q2,q3⟩:=aV hx1 rfl;have HC:Hid (∀ w', Below x1.heap.size x1 w' → w'.heap[w.heap.size]?=some (.cells #[.int .i64 s,.int .i64 ep,.int .u64 nn,.int .i64 k] 48)):=Hd fun w' hb=>bG q2 hb
 have HB:Hid (∀ w', Below x1.heap.size x1 w' → Below w.heap.size w w'):=Hd fun w' hb=>q3.trans (hb.mono (by omega))
 have X1:=Hd hx1;have S0:=Hd (Below.refl x1.heap.size x1).drew;have hi0:0 ≤ s:=by omega
 have hi1:0 ≤ ep:=by omega
 have hi3:0 ≤ k:=by omega
 have j1:¬ s < 1:=by omega
 have j2:¬ 200 < s:=by omega
 have j3:¬ ep < 1:=by omega
 have j4:¬ 15 < ep:=by omega
 have j5:¬ k < 1:=by omega
 have j6:¬ 65535 < k:=by omega
 obtain ⟨⟨c0,c1,c2,c3⟩,_⟩:=aG q2;clear hx hy hz hu hk p0 p1 p2 p3 hv g0 g1 g2 g3 q1 q2 q3 hx1;go_enter Tryz.func67,Tryz.ntmps67;go_upto_region 1 with fail
 rw [X1.out];go_upto_region 3 with fail
 clear c0 c1 c2 c3 j1 j2 j3 j4 j5 j6;refine wp_region_held_drew (S:=fun w' => Below x1.heap.size x1 w')(by kernel_rfl) S0.out (fun hS=>?_);refine Hu 0 32 hS ?_;simp only [SL];refine Hv 1 33 ?va1x2 hS ?ha1x2 ?_
 case ha1x2 =>
  intro w9 s9;have k9:=HC.out _ s9;obtain ⟨⟨q0,q1,q2,q3⟩,_⟩:=aG k9;clear s9;go_simp;try (with_reducible rfl)
 simp only [SL];refine Hu 2 34 hS ?_;simp only [SL];refine Hu 4 36 hS ?_;simp only [SL];refine Hv 5 37 ?va5x5 hS ?ha5x5 ?_
 case ha5x5 =>
  intro w9 s9;have k9:=HC.out _ s9;obtain ⟨⟨q0,q1,q2,q3⟩,_⟩:=aG k9;clear s9;go_simp;try (with_reducible rfl)
 simp only [SL];refine Hu 6 38 hS ?_;simp only [SL];refine Hu 9 41 hS ?_;simp only [SL];refine Hv 10 42 ?va10x8 hS ?ha10x8 ?_
 case ha10x8 =>
  intro w9 s9;have k9:=HC.out _ s9;obtain ⟨⟨q0,q1,q2,q3⟩,_⟩:=aG k9;clear s9;go_simp;try (with_reducible rfl)
 simp only [SL];refine Hu 13 45 hS ?_;simp only [SL];refine Hv 14 46 ?va14x10 hS ?ha14x10 ?_
 case ha14x10 =>
  intro w9 s9;have k9:=HC.out _ s9;obtain ⟨⟨q0,q1,q2,q3⟩,_⟩:=aG k9;clear s9;go_simp;try (with_reducible rfl)
 simp only [SL];refine Hu 15 47 hS ?_;simp only [SL];refine Hs 3 (fun K HK=>?_);go_simp;go_wp2_with fail;refine (qY _ _ x _ (by omega)(by omega) Hx.out).mono ?_;rintro e w6 ⟨rfl,b6⟩;refine HK.out _ _ ?_ ?_
 ·exact chain hS b6
 clear HK K;try simp only [Act.put,SL]
 have hS9:=chain hS b6;clear hS b6;have hS:=hS9;clear hS9;refine Hs 7 (fun K HK=>?_);go_simp;go_wp2_with fail;refine (qY _ _ y _ (by omega)(by omega) Hy.out).mono ?_;rintro e w6 ⟨rfl,b6⟩;refine HK.out _ _ ?_ ?_
 ·exact chain hS b6
 clear HK K;try simp only [Act.put,SL]
 have hS9:=chain hS b6;clear hS b6;have hS:=hS9;clear hS9;refine Hu 8 40 hS ?_;simp only [SL];refine Hs 11 (fun K HK=>?_);go_simp;go_wp2_with fail;refine (qY _ _ z _ (by omega)(by omega) Hz.out).mono ?_;rintro e w6 ⟨rfl,b6⟩;refine HK.out _ _ ?_ ?_
 ·exact chain hS b6
 clear HK K;try simp only [Act.put,SL]
 have hS9:=chain hS b6;clear hS b6;have hS:=hS9;clear hS9;refine Hu 12 44 hS ?_;simp only [SL];refine Hs 16 (fun K HK=>?_);go_simp;go_wp2_with fail;refine (qY _ _ u _ (by omega)(by omega) Hq.out).mono ?_;rintro e w6 ⟨rfl,b6⟩;refine HK.out _ _ ?_ ?_
 ·exact chain hS b6
 clear HK K;try simp only [Act.put,SL]
 have hS9:=chain hS b6;clear hS b6;have hS:=hS9;clear hS9;refine Hu 17 49 hS ?_;simp only [SL];refine Hu 18 2 hS ?_;simp only [SL];refine Hu 19 3 hS ?_;simp only [SL];refine wpAnyH_done (by kernel_rfl) ?_ _;have FIN:=HB.out _ hS;clear hS;have FIN:=Hd FIN;go_wp2_with fail;go_ret2;exact ⟨by rw [← HV.out]; rfl,FIN.out⟩
theorem sN (s ep nn k:Int)(w:World)(hk:fF s ep k=false) :
  Calls Tryz.prog 67 #[.agg #[.int .i64 s,.int .i64 ep,.int .u64 nn,.int .i64 k]] w fun e w' => e=.returned (.tuple #[.string ⟨#[]⟩,.bool false])∧Below w.heap.size w w' := by
 have hi:s < 1 ∨ (¬ s < 1∧200 < s) ∨ (¬ s < 1∧¬ 200 < s∧ep < 1) ∨ (¬ s < 1∧¬ 200 < s∧¬ ep < 1∧15 < ep) ∨ (¬ s < 1∧¬ 200 < s∧¬ ep < 1∧¬ 15 < ep∧k < 1) ∨ (¬ s < 1∧¬ 200 < s∧¬ ep < 1∧¬ 15 < ep∧¬ k < 1∧65535 < k):=by
  by_cases h:s < 1 ∨ 200 < s ∨ ep < 1 ∨ 15 < ep ∨ k < 1 ∨ 65535 < k
  ·omega
  ·exfalso
   have:fF s ep k=true:=by unfold fF; simp only [inB,Bool.and_eq_true,decide_eq_true_eq]; omega
   rw [this] at hk
   cases hk
 clear hk;obtain ⟨x1,hx1⟩:∃ x1,w.alloc (.cells #[.int .i64 s,.int .i64 ep,.int .u64 nn,.int .i64 k] 48)=x1:=⟨_,rfl⟩
 obtain ⟨q1,q2,q3⟩:=aV hx1 rfl;obtain ⟨⟨c0,c1,c2,c3⟩,_⟩:=aG q2;have X1:=Hd hx1;have Q3:=Hd q3;clear hx1 q1 q2 q3
 rcases hi with h | ⟨h1,h⟩ | ⟨h1,h2,h⟩ | ⟨h1,h2,h3,h⟩ | ⟨h1,h2,h3,h4,h⟩ | ⟨h1,h2,h3,h4,h5,h⟩
 all_goals
  go_enter Tryz.func67,Tryz.ntmps67;go_upto_region 1 with fail
  rw [X1.out];go_wp2_with fail;go_ret2;exact ⟨rfl,Q3.out⟩
theorem ZR (s ep nn k:Int)(key:ByteArray)(w:World)(hk:fF s ep k=false) :
  Calls Tryz.prog 27 #[.agg #[.int .i64 s,.int .i64 ep,.int .u64 nn,.int .i64 k],.string key] w fun e w' => e=.returned (.tuple #[.string ⟨#[]⟩,.bool false])∧Below w.heap.size w w' := by
 have RG:=Hd (fun w=>sN s ep nn k w hk);clear hk;obtain ⟨x1,hx1⟩:∃ x1,w.alloc (.cells #[.int .i64 s,.int .i64 ep,.int .u64 nn,.int .i64 k] 48)=x1:=⟨_,rfl⟩
 obtain ⟨q1,q2,q3⟩:=aV hx1 rfl;obtain ⟨⟨c0,c1,c2,c3⟩,_⟩:=aG q2;have X1:=Hd hx1;have Q3:=Hd q3;clear hx1 q1 q2 q3;go_enter Tryz.func27,Tryz.ntmps27;go_upto_region 1 with fail
 rw [X1.out];go_wp2_with fail;refine (RG.out _).mono ?_;rintro e w2 ⟨rfl,b2⟩;have B2:=Hd (chain Q3.out b2);clear b2 c0 c1 c2 c3;go_wp2_with fail;go_ret2;exact ⟨rfl,B2.out⟩
theorem UG (s ep nn k:Int)(key v:ByteArray)(w:World)(hk:fF s ep k=true)(n0:0 ≤ nn)(n1:nn ≤ 18446744073709551615)(hkey:key.size ≤ 100)(hv:cM s ep nn k key=v) :
  Calls Tryz.prog 27 #[.agg #[.int .i64 s,.int .i64 ep,.int .u64 nn,.int .i64 k],.string key] w fun e w' => e=.returned (.tuple #[.string v,.bool true])∧Below w.heap.size w w' := by
 have hb:=oT hk n0 n1;obtain ⟨b,hbb⟩:∃ b,hB s ep nn k=b:=⟨_,rfl⟩
 have BG:=Hd (fun w=>sO s ep nn k b w hk n0 n1 hbb);unfold cM at hv;rw [hbb] at hv hb;obtain ⟨g,hg⟩:∃ g,lC key b=g:=⟨_,rfl⟩
 have hgs:=lZ key b;rw [hg] at hv hgs;have TG:=Hd (fun w=>by have:=uZ key b w (by omega)(by omega); unfold lC at hg; rw [hg] at this; exact this);have HV:=Hd hv;have s1:(9223372036854775807 < b.size + g.size)=False:=by rw [eq_iff_iff,iff_false]; omega
 clear hk n0 n1 hkey hv hbb hg hb hgs;obtain ⟨x1,hx1⟩:∃ x1,w.alloc (.cells #[.int .i64 s,.int .i64 ep,.int .u64 nn,.int .i64 k] 48)=x1:=⟨_,rfl⟩
 obtain ⟨q1,q2,q3⟩:=aV hx1 rfl;obtain ⟨⟨c0,c1,c2,c3⟩,_⟩:=aG q2;have X1:=Hd hx1;have Q3:=Hd q3;clear hx1 q1 q2 q3;go_enter Tryz.func27,Tryz.ntmps27;go_upto_region 1 with fail
 rw [X1.out];go_wp2_with fail;refine (BG.out _).mono ?_;rintro e w3 ⟨rfl,b3⟩;have B3:=Hd (chain Q3.out b3);clear b3 c0 c1 c2 c3;go_wp2_with fail;refine (TG.out _).mono ?_;rintro e w4 ⟨rfl,b4⟩;have B4:=Hd (chain B3.out b4);clear b4;go_wp2_with fail;go_ret2;exact ⟨by rw [← HV.out]; rfl,B4.out⟩
theorem sM (s ep nn k:Int)(tag key:ByteArray)(v:Bool)(w:World)(hk:fF s ep k=true)(n0:0 ≤ nn)(n1:nn ≤ 18446744073709551615)(hkey:key.size ≤ 100)(hv:decide (tag=lC key (hB s ep nn k))=v) :
  Calls Tryz.prog 31 #[.agg #[.int .i64 s,.int .i64 ep,.int .u64 nn,.int .i64 k],.string tag,.string key] w fun e w' => e=.returned (.bool v)∧Below w.heap.size w w' := by
 have hb:=oT hk n0 n1;obtain ⟨b,hbb⟩:∃ b,hB s ep nn k=b:=⟨_,rfl⟩
 have BG:=Hd (fun w=>sO s ep nn k b w hk n0 n1 hbb);rw [hbb] at hv hb;obtain ⟨g,hg⟩:∃ g,lC key b=g:=⟨_,rfl⟩
 rw [hg] at hv;have TG:=Hd (fun w=>by have:=uZ key b w (by omega)(by omega); unfold lC at hg; rw [hg] at this; exact this);have HV:Hid (decide (tag=g)=v):=Hd hv;clear hk n0 n1 hkey hv hbb hg hb;obtain ⟨x1,hx1⟩:∃ x1,w.alloc (.cells #[.int .i64 s,.int .i64 ep,.int .u64 nn,.int .i64 k] 48)=x1:=⟨_,rfl⟩
 obtain ⟨q1,q2,q3⟩:=aV hx1 rfl;obtain ⟨⟨c0,c1,c2,c3⟩,_⟩:=aG q2;have X1:=Hd hx1;have Q3:=Hd q3;clear hx1 q1 q2 q3;go_enter Tryz.func31,Tryz.ntmps31;go_upto_region 1 with fail
 rw [X1.out];go_wp2_with fail;refine (BG.out _).mono ?_;rintro e w3 ⟨rfl,b3⟩;have B3:=Hd (chain Q3.out b3);clear b3 c0 c1 c2 c3;go_wp2_with fail;refine (TG.out _).mono ?_;rintro e w4 ⟨rfl,b4⟩;have B4:=Hd (chain B3.out b4);clear b4;go_wp2_with fail;go_ret;exact ⟨bS (by rw [← HV.out,Bool.eq_iff_iff]; simp only [decide_eq_true_eq,beq_iff_eq]; rw [sY]; exact eq_comm),B4.out⟩
theorem vC (s ep nn k:Int)(tag key:ByteArray)(w:World)(hk:fF s ep k=false) :
  Calls Tryz.prog 31 #[.agg #[.int .i64 s,.int .i64 ep,.int .u64 nn,.int .i64 k],.string tag,.string key] w fun e w' => e=.returned (.bool false)∧Below w.heap.size w w' := by
 have RG:=Hd (fun w=>sN s ep nn k w hk);clear hk;obtain ⟨x1,hx1⟩:∃ x1,w.alloc (.cells #[.int .i64 s,.int .i64 ep,.int .u64 nn,.int .i64 k] 48)=x1:=⟨_,rfl⟩
 obtain ⟨q1,q2,q3⟩:=aV hx1 rfl;obtain ⟨⟨c0,c1,c2,c3⟩,_⟩:=aG q2;have X1:=Hd hx1;have Q3:=Hd q3;clear hx1 q1 q2 q3;go_enter Tryz.func31,Tryz.ntmps31;go_upto_region 1 with fail
 rw [X1.out];go_wp2_with fail;refine (RG.out _).mono ?_;rintro e w2 ⟨rfl,b2⟩;have B2:=Hd (chain Q3.out b2);clear b2 c0 c1 c2 c3;go_wp2_with fail;go_ret;exact ⟨rfl,B2.out⟩
theorem EV (s:ByteArray)(vs ve vn vk:Int)(r1 r2 r3 r4:ByteArray)(w:World)(hs:s.size=29)(hvs:hfS s=vs)(hve:hfE s=ve)(hvn:hfN s=vn)(hvk:hfK s=vk)(hr1' : hr1 s=r1)(hr2' : hr2 s=r2)(hr3' : hr3 s=r3)(hr4' : hr4 s=r4)(hok:fF vs ve vk=false) :
  Calls Tryz.prog 29 #[.string s] w fun e w' => e=.returned (.tuple #[.agg #[.int .i64 0,.int .i64 0,.int .u64 0,.int .i64 0],.string ⟨#[]⟩,.bool false])∧Below w.heap.size w w' := by
 obtain ⟨⟨l1,l2⟩,⟨l3,l4⟩,⟨l5,l6⟩,⟨l7,l8⟩⟩:=jZ s;rw [hvs] at l1 l2;rw [hve] at l3 l4;rw [hvn] at l5 l6;rw [hvk] at l7 l8;have c1:IntKind.i64.wrap vs=vs:=IntWalk.i64_in _ (by omega);have c2:IntKind.i64.wrap ve=ve:=IntWalk.i64_in _ (by omega);have c3:IntKind.i64.wrap vk=vk:=IntWalk.i64_in _ (by omega);have RG:=Hd (fun w=>sN vs ve vn vk w hok);unfold hfS at hvs;unfold hr1 at hr1';unfold hfE hr1 at hve;unfold hr2 hr1 at hr2';unfold hfN hr2 hr1 at hvn;unfold hr3 hr2 hr1 at hr3';unfold hfK hr3 hr2 hr1 at hvk;unfold hr4 hr3 hr2 hr1 at hr4'
 have T1:=Hd (fun w=>by have:=dK s 2 w; rw [show aC s 2=vs from hvs,show aA s 2=r1 from hr1'] at this; exact this);have T2:=Hd (fun w=>by have:=dK r1 1 w; rw [← hr1', show aC (aA s 2) 1=ve from hve,show aA (aA s 2) 1=r2 from hr2', hr1'] at this; exact this);have T3:=Hd (fun w=>by have:=dK r2 8 w; rw [← hr2', show aC (aA (aA s 2) 1) 8=vn from hvn,show aA (aA (aA s 2) 1) 8=r3 from hr3', hr2'] at this; exact this)
 have T4:=Hd (fun w=>by have:=dK r3 2 w; rw [← hr3', show aC (aA (aA (aA s 2) 1) 8) 2=vk from hvk,show aA (aA (aA (aA s 2) 1) 8) 2=r4 from hr4', hr3'] at this; exact this);have e29:(s.size:Int)=29:=by omega
 obtain ⟨r,hr⟩:∃ r,w.heap.size=r:=⟨_,rfl⟩
 obtain ⟨x1,hx1⟩:∃ x1,w.alloc (.cells #[.int .i64 0,.int .i64 0,.int .u64 0,.int .i64 0] 48)=x1:=⟨_,rfl⟩
 obtain ⟨q1,q2,q3⟩:=aV hx1 hr;have X1:=Hd hx1;have HR:Hid (w.heap.size ≤ r):=Hd (by omega);have Q2:=Hd q2;have Q3:=Hd q3;clear hx1 q1 q2 q3;clear hs hvs hve hvn hvk hr1' hr2' hr3' hr4' hok l1 l2 l3 l4 l5 l6 l7 l8;go_enter Tryz.func29,Tryz.ntmps29;go_upto_region 1 with fail
 rw [X1.out];go_wp2_with fail;refine (T1.out _).mono ?_;rintro e w2 ⟨rfl,b2⟩;go_wp2_with fail;refine (T2.out _).mono ?_;rintro e w3 ⟨rfl,b3⟩;go_wp2_with fail;refine (T3.out _).mono ?_;rintro e w4 ⟨rfl,b4⟩;go_wp2_with fail;refine (T4.out _).mono ?_;rintro e w5 ⟨rfl,b5⟩;have m5:=Hd (bG (bG (bG (bG Q2.out b2) b3) b4) b5);have B5:=Hd (chain (chain (chain (chain Q3.out b2) b3) b4) b5);clear b2 b3 b4 b5 T1 T2 T3 T4;obtain ⟨t,ht⟩:∃ t,w5.heap.size=t:=⟨_,rfl⟩
 obtain ⟨x6,hx6⟩:∃ x6,w5.alloc (.cells #[.int .i64 vs,.int .i64 ve,.int .u64 vn,.int .i64 vk] 48)=x6:=⟨_,rfl⟩
 obtain ⟨q1,q2,q3⟩:=aV hx6 ht;have X6:=Hd hx6;have m6:=Hd (bG m5.out q3);have B6:=Hd (chain B5.out q3);have G6:=Hd q2;obtain ⟨⟨y0,y1,y2,y3⟩,u0,u1,u2,u3⟩:=aG q2;clear hx6 q1 q2 q3 m5 B5;go_upto_region 8 with fail
 rw [X6.out];go_wp2_with fail;refine (RG.out _).mono ?_;rintro e w7 ⟨rfl,b7⟩;have m7:=bG m6.out b7;have t7:=Hd (bG G6.out b7);have B7:=Hd (chain B6.out b7);clear y0 y1 y2 y3 u0 u1 u2 u3 b7;obtain ⟨n1,n2⟩:=set4 m7 (.int .i64 0)(.int .i64 0)(.int .u64 0)(.int .i64 0);obtain ⟨⟨y0,y1,y2,y3⟩,u0,u1,u2,u3⟩:=aG m7
 have FIN:Hid ((st4 w7 r (.int .i64 0)(.int .i64 0)(.int .u64 0)(.int .i64 0)).heap[r]?=some (.cells #[.int .i64 0,.int .i64 0,.int .u64 0,.int .i64 0] 48)∧Below w.heap.size w (st4 w7 r (.int .i64 0)(.int .i64 0)(.int .u64 0)(.int .i64 0))):=Hd ⟨n1,B7.out.trans (n2.below (fun k hk=>by rw [hk]; exact HR.out) B7.out.size)⟩;unfold st4 at FIN;clear n1 n2 m7;go_wp2_with fail
 exact bodyPost_ret (v:=.tuple #[.agg #[.int .i64 0,.int .i64 0,.int .u64 0,.int .i64 0],.string ⟨#[]⟩,.bool false])(cJ (fn:=Tryz.f29) rfl _ _ r 48 _ (0,0) _ _ _ rfl rfl rfl FIN.out.1 Tryz.underlying48 rfl fG) rfl ⟨rfl,FIN.out.2⟩
theorem zJ (s:ByteArray)(vs ve vn vk:Int)(r1 r2 r3 r4:ByteArray)(w:World)(hs:s.size=29)(hvs:hfS s=vs)(hve:hfE s=ve)(hvn:hfN s=vn)(hvk:hfK s=vk)(hr1' : hr1 s=r1)(hr2' : hr2 s=r2)(hr3' : hr3 s=r3)(hr4' : hr4 s=r4)(hok:fF vs ve vk=true) :
  Calls Tryz.prog 29 #[.string s] w fun e w' => e=.returned (.tuple #[.agg #[.int .i64 vs,.int .i64 ve,.int .u64 vn,.int .i64 vk],.string r4,.bool true])∧Below w.heap.size w w' := by
 obtain ⟨⟨l1,l2⟩,⟨l3,l4⟩,⟨l5,l6⟩,⟨l7,l8⟩⟩:=jZ s;rw [hvs] at l1 l2;rw [hve] at l3 l4;rw [hvn] at l5 l6;rw [hvk] at l7 l8;have c1:IntKind.i64.wrap vs=vs:=IntWalk.i64_in _ (by omega);have c2:IntKind.i64.wrap ve=ve:=IntWalk.i64_in _ (by omega);have c3:IntKind.i64.wrap vk=vk:=IntWalk.i64_in _ (by omega);have RG:=Hd (fun w=>sO vs ve vn vk _ w hok (by omega)(by omega) rfl);unfold hfS at hvs;unfold hr1 at hr1';unfold hfE hr1 at hve;unfold hr2 hr1 at hr2';unfold hfN hr2 hr1 at hvn;unfold hr3 hr2 hr1 at hr3';unfold hfK hr3 hr2 hr1 at hvk
 unfold hr4 hr3 hr2 hr1 at hr4';have T1:=Hd (fun w=>by have:=dK s 2 w; rw [show aC s 2=vs from hvs,show aA s 2=r1 from hr1'] at this; exact this);have T2:=Hd (fun w=>by have:=dK r1 1 w; rw [← hr1', show aC (aA s 2) 1=ve from hve,show aA (aA s 2) 1=r2 from hr2', hr1'] at this; exact this);have T3:=Hd (fun w=>by have:=dK r2 8 w; rw [← hr2', show aC (aA (aA s 2) 1) 8=vn from hvn,show aA (aA (aA s 2) 1) 8=r3 from hr3', hr2'] at this; exact this)
 have T4:=Hd (fun w=>by have:=dK r3 2 w; rw [← hr3', show aC (aA (aA (aA s 2) 1) 8) 2=vk from hvk,show aA (aA (aA (aA s 2) 1) 8) 2=r4 from hr4', hr3'] at this; exact this);have e29:(s.size:Int)=29:=by omega
 obtain ⟨r,hr⟩:∃ r,w.heap.size=r:=⟨_,rfl⟩
 obtain ⟨x1,hx1⟩:∃ x1,w.alloc (.cells #[.int .i64 0,.int .i64 0,.int .u64 0,.int .i64 0] 48)=x1:=⟨_,rfl⟩
 obtain ⟨q1,q2,q3⟩:=aV hx1 hr;have X1:=Hd hx1;have HR:Hid (w.heap.size ≤ r):=Hd (by omega);have Q2:=Hd q2;have Q3:=Hd q3;clear hx1 q1 q2 q3;clear hs hvs hve hvn hvk hr1' hr2' hr3' hr4' hok l1 l2 l3 l4 l5 l6 l7 l8;go_enter Tryz.func29,Tryz.ntmps29;go_upto_region 1 with fail
 rw [X1.out];go_wp2_with fail;refine (T1.out _).mono ?_;rintro e w2 ⟨rfl,b2⟩;go_wp2_with fail;refine (T2.out _).mono ?_;rintro e w3 ⟨rfl,b3⟩;go_wp2_with fail;refine (T3.out _).mono ?_;rintro e w4 ⟨rfl,b4⟩;go_wp2_with fail;refine (T4.out _).mono ?_;rintro e w5 ⟨rfl,b5⟩;have m5:=Hd (bG (bG (bG (bG Q2.out b2) b3) b4) b5);have B5:=Hd (chain (chain (chain (chain Q3.out b2) b3) b4) b5);clear b2 b3 b4 b5 T1 T2 T3 T4;obtain ⟨t,ht⟩:∃ t,w5.heap.size=t:=⟨_,rfl⟩
 obtain ⟨x6,hx6⟩:∃ x6,w5.alloc (.cells #[.int .i64 vs,.int .i64 ve,.int .u64 vn,.int .i64 vk] 48)=x6:=⟨_,rfl⟩
 obtain ⟨q1,q2,q3⟩:=aV hx6 ht;have X6:=Hd hx6;have m6:=Hd (bG m5.out q3);have B6:=Hd (chain B5.out q3);have G6:=Hd q2;obtain ⟨⟨y0,y1,y2,y3⟩,u0,u1,u2,u3⟩:=aG q2;clear hx6 q1 q2 q3 m5 B5;go_upto_region 8 with fail
 rw [X6.out];go_wp2_with fail;refine (RG.out _).mono ?_;rintro e w7 ⟨rfl,b7⟩;have m7:=bG m6.out b7;have t7:=Hd (bG G6.out b7);have B7:=Hd (chain B6.out b7);clear y0 y1 y2 y3 u0 u1 u2 u3 b7;obtain ⟨n1,n2⟩:=set4 m7 (.int .i64 vs)(.int .i64 ve)(.int .u64 vn)(.int .i64 vk);obtain ⟨⟨y0,y1,y2,y3⟩,u0,u1,u2,u3⟩:=aG m7
 have FIN:Hid ((st4 w7 r (.int .i64 vs)(.int .i64 ve)(.int .u64 vn)(.int .i64 vk)).heap[r]?=some (.cells #[.int .i64 vs,.int .i64 ve,.int .u64 vn,.int .i64 vk] 48)∧Below w.heap.size w (st4 w7 r (.int .i64 vs)(.int .i64 ve)(.int .u64 vn)(.int .i64 vk))):=Hd ⟨n1,B7.out.trans (n2.below (fun k hk=>by rw [hk]; exact HR.out) B7.out.size)⟩;unfold st4 at FIN;clear n1 n2 m7;obtain ⟨⟨z0,z1,z2,z3⟩,_⟩:=aG t7.out;go_wp2_with fail
 exact bodyPost_ret (v:=.tuple #[.agg #[.int .i64 vs,.int .i64 ve,.int .u64 vn,.int .i64 vk],.string r4,.bool true])(cJ (fn:=Tryz.f29) rfl _ _ r 48 _ (0,0) _ _ _ rfl rfl rfl FIN.out.1 Tryz.underlying48 rfl fG) rfl ⟨rfl,FIN.out.2⟩
theorem EU (s:ByteArray)(w:World)(hs:s.size ≠ 29) :
  Calls Tryz.prog 29 #[.string s] w fun e w' => e=.returned (.tuple #[.agg #[.int .i64 0,.int .i64 0,.int .u64 0,.int .i64 0],.string ⟨#[]⟩,.bool false])∧Below w.heap.size w w' := by
 have e29:¬ (s.size:Int)=29:=by omega
 obtain ⟨r,hr⟩:∃ r,w.heap.size=r:=⟨_,rfl⟩
 obtain ⟨x1,hx1⟩:∃ x1,w.alloc (.cells #[.int .i64 0,.int .i64 0,.int .u64 0,.int .i64 0] 48)=x1:=⟨_,rfl⟩
 obtain ⟨q1,q2,q3⟩:=aV hx1 hr;have X1:=Hd hx1;have HR:Hid (w.heap.size ≤ r):=Hd (by omega);have Q2:=Hd q2;have Q3:=Hd q3;clear hx1 q1 q2 q3;clear hs;go_enter Tryz.func29,Tryz.ntmps29;go_upto_region 1 with fail
 rw [X1.out];obtain ⟨n1,n2⟩:=set4 Q2.out (.int .i64 0)(.int .i64 0)(.int .u64 0)(.int .i64 0);obtain ⟨⟨y0,y1,y2,y3⟩,u0,u1,u2,u3⟩:=aG Q2.out;have FIN:Hid ((st4 x1 r (.int .i64 0)(.int .i64 0)(.int .u64 0)(.int .i64 0)).heap[r]?=some (.cells #[.int .i64 0,.int .i64 0,.int .u64 0,.int .i64 0] 48)∧Below w.heap.size w (st4 x1 r (.int .i64 0)(.int .i64 0)(.int .u64 0)(.int .i64 0))):=Hd ⟨n1,Q3.out.trans (n2.below (fun k hk=>by rw [hk]; exact HR.out) Q3.out.size)⟩;unfold st4 at FIN;clear n1 n2;go_wp2_with fail
 exact bodyPost_ret (v:=.tuple #[.agg #[.int .i64 0,.int .i64 0,.int .u64 0,.int .i64 0],.string ⟨#[]⟩,.bool false])(cJ (fn:=Tryz.f29) rfl _ _ r 48 _ (0,0) _ _ _ rfl rfl rfl FIN.out.1 Tryz.underlying48 rfl fG) rfl ⟨rfl,FIN.out.2⟩
theorem UF (s:ByteArray)(w:World)(h:hOk s=false) :
  Calls Tryz.prog 29 #[.string s] w fun e w' => e=.returned (.tuple #[.agg #[.int .i64 0,.int .i64 0,.int .u64 0,.int .i64 0],.string ⟨#[]⟩,.bool false])∧Below w.heap.size w w' := by
 by_cases hs:s.size=29
 ·refine EV s _ _ _ _ _ _ _ _ w hs rfl rfl rfl rfl rfl rfl rfl rfl ?_
  unfold hOk at h;rw [hs] at h
  simpa using h
 ·exact EU s w hs
theorem NM (s:ByteArray)(w:World)(h:hOk s=true) :
  Calls Tryz.prog 29 #[.string s] w fun e w' => e=.returned (.tuple #[.agg #[.int .i64 (hfS s),.int .i64 (hfE s),.int .u64 (hfN s),.int .i64 (hfK s)],.string (hr4 s),.bool true])∧Below w.heap.size w w' := by
 unfold hOk at h;simp only [Bool.and_eq_true,decide_eq_true_eq] at h;exact zJ s _ _ _ _ _ _ _ _ w h.1 rfl rfl rfl rfl rfl rfl rfl rfl h.2
end Go.Proofs.YthcejfnngkmojaaGreatDoor
