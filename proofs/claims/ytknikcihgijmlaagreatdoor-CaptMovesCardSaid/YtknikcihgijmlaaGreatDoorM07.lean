import Derived.Test.YtknikcihgijmlaaGreatDoorM06
namespace Go.Proofs.YtknikcihgijmlaaGreatDoor
open Go.RowKit
set_option maxRecDepth 20000
set_option maxHeartbeats 12800000
set_option linter.unusedVariables false
set_option linter.unusedSimpArgs false
def aCR (l:List UInt8)(i:Nat):Bool:=if h:i / 8<l.length then(l[i / 8]).toNat.testBit (i % 8) else false
def gI (b:ByteArray)(i:Int):Bool:=decide (0<=i)&&aCR b.data.toList i.toNat
def rI (b:ByteArray)(i:Int):Bool:=decide (0<=i/\i<8*(b.size:Int))
theorem zT (x k:Nat)(hx:x<256):(bits .and .u8 ((x:Int) / 2 ^ k) 1==1)=x.testBit k:=by
 have h1:x / 2 ^ k<256:=Nat.lt_of_le_of_lt (Nat.div_le_self _ _) hx;have h:∀ y:Fin 256,(bits .and .u8 (y.val:Int) 1==1)=(y.val % 2==1):=by decide +kernel
 have:=h ⟨x / 2 ^ k,h1⟩;rw[Nat.testBit_eq_decide_div_mod_eq];simp only[Int.natCast_ediv,Int.natCast_pow] at this;rw[show((2:Nat):Int)=2 from rfl] at this;rw[this];rw[Bool.eq_iff_iff];simp
theorem AJ (b:ByteArray)(i:Int)(w:World)(hi:i<9223372036854775808) :
  () 192 #[b,i] w fun e w'=>e=.returned (.bool (rI b i))/\w=w':=by
 unfold rI
 by_cases h0:0<=i
 ·obtain⟨n,rfl⟩:=Int.eq_ofNat_of_zero_le h0
  have e:decide (0<=(n:Int)/\(n:Int)<8*(b.size:Int))=decide ((n:Int) / 8<(b.size:Int)):=by
   rw[decide_eq_decide];omega
  rw[e];go_enter Tryz.func192,Tryz.ntmps192;go_wp2_with fail
  all_goals go_ret
  all_goals exact⟨aU (by simp),rfl⟩
 ·have e:decide (0<=i/\i<8*(b.size:Int))=false:=by rw[decide_eq_false_iff_not];omega
  rw[e];go_enter Tryz.func192,Tryz.ntmps192;go_wp2_with fail
  all_goals go_ret
  all_goals exact⟨rfl,rfl⟩
theorem aBY (b:ByteArray)(n:Nat)(hn:n / 8<b.size):gI b (n:Int)=(b[n / 8]).toNat.testBit (n % 8):=by
 have h:n / 8<b.data.toList.length:=by simpa using hn
 simp only[gI,aCR,Int.toNat_natCast,dif_pos h];simp[ByteArray.getElem_eq_getElem_data]
theorem YB (b:ByteArray)(i:Int)(h:¬(0<=i/\i<8*(b.size:Int))):gI b i=false:=by
 unfold gI aCR
 by_cases h0:0<=i
 ·have:¬ i.toNat / 8<b.data.toList.length:=by simp;omega
  rw[dif_neg this,Bool.and_false]
 ·simp[h0]
theorem aBW (b:ByteArray)(n:Nat)(v:Bool)(w:World)(hi:n<9223372036854775808)(hr:Hid (rI b (n:Int)=true))(c:Nat)(hc:c<256)(hn:n / 8<b.size)(hb:b[n / 8].toNat=c)
  (hv:(bits .and .u8 ((c:Int) / 2 ^ (n % 8)) 1==1)=v) :
  () 176 #[b,(n:Int)] w fun e w'=>e=.returned (.bool v)/\w=w':=by
 have hn':(n:Int) / 8<(b.size:Int):=by omega
 have hk:n % 8<8:=by omega
 go_enter Tryz.func176,Tryz.ntmps176;go_wp2_with fail;refine(AJ _ _ _ (by omega)).mono ?_;rw[hr.o];rintro e w1 ⟨rfl,rfl⟩;go_wp2_with fail;go_ret;exact⟨aU (by simp),rfl⟩
theorem aDY (b:ByteArray)(i:Int)(w:World)(hi:i<9223372036854775808)(hr:Hid (rI b i=false)) :
  () 176 #[b,i] w fun e w'=>e=.returned (.bool false)/\w=w':=by
 go_enter Tryz.func176,Tryz.ntmps176;go_wp2_with fail;refine(AJ _ _ _ hi).mono ?_;rw[hr.o];rintro e w1 ⟨rfl,rfl⟩;go_wp2_with fail;go_ret;exact⟨rfl,rfl⟩
theorem aBX (b:ByteArray)(i:Int)(w:World)(hi:i<9223372036854775808) :
  () 176 #[b,i] w fun e w'=>e=.returned (.bool (gI b i))/\w=w':=by
 by_cases h:0<=i/\i<8*(b.size:Int)
 ·obtain⟨n,rfl⟩:=Int.eq_ofNat_of_zero_le h.1
  have hn:n / 8<b.size:=by omega
  have hr:rI b (n:Int)=true:=by unfold rI;exact decide_eq_true h
  refine aBW b n _ w (by omega) (Hd hr) _ (UInt8.toNat_lt b[n / 8]) hn rfl ?_;rw[zT _ _ (UInt8.toNat_lt b[n / 8])];exact(aBY b n hn).symm
 ·have hr:rI b i=false:=by unfold rI;exact decide_eq_false h
  rw[YB b i h];exact aDY b i w hi (Hd hr)
