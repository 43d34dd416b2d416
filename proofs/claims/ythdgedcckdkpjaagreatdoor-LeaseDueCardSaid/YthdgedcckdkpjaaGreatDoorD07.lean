import Derived.Test.YthdgedcckdkpjaaGreatDoorD06
namespace Go.Proofs.YthdgedcckdkpjaaGreatDoor
open Go.RowKit
set_option maxRecDepth 20000
set_option maxHeartbeats 12800000
set_option linter.unusedVariables false
set_option linter.unusedSimpArgs false
def aDA (l:List UInt8)(i:Nat):Bool:=if h:i / 8<l.length then(l[i / 8]).toNat.testBit (i % 8) else false
def gB (b:ByteArray)(i:Int):Bool:=decide (0<=i)&&aDA b.data.toList i.toNat
def rP (b:ByteArray)(i:Int):Bool:=decide (0<=i/\i<8*(b.size:Int))
theorem AB (x k:Nat)(hx:x<256):(bits .and .u8 ((x:Int) / 2 ^ k) 1==1)=x.testBit k:=by
 have h1:x / 2 ^ k<256:=Nat.lt_of_le_of_lt (Nat.div_le_self _ _) hx;have h:∀ y:Fin 256,(bits .and .u8 (y.val:Int) 1==1)=(y.val % 2==1):=by decide +kernel
 have:=h ⟨x / 2 ^ k,h1⟩;rw[Nat.testBit_eq_decide_div_mod_eq];simp only[Int.natCast_ediv,Int.natCast_pow] at this;rw[show((2:Nat):Int)=2 from rfl] at this;rw[this];rw[Bool.eq_iff_iff];simp
theorem AR (b:ByteArray)(i:Int)(w:World)(hi:i<9223372036854775808) :
  () 196 #[b,i] w fun e w'=>e=.returned (.bool (rP b i))/\w=w':=by
 unfold rP
 by_cases h0:0<=i
 ·obtain⟨n,rfl⟩:=Int.eq_ofNat_of_zero_le h0
  have e:decide (0<=(n:Int)/\(n:Int)<8*(b.size:Int))=decide ((n:Int) / 8<(b.size:Int)):=by
   rw[decide_eq_decide];omega
  rw[e];go_enter Tryz.func196,Tryz.ntmps196;go_wp2_with fail
  all_goals go_ret
  all_goals exact⟨aS (by simp),rfl⟩
 ·have e:decide (0<=i/\i<8*(b.size:Int))=false:=by rw[decide_eq_false_iff_not];omega
  rw[e];go_enter Tryz.func196,Tryz.ntmps196;go_wp2_with fail
  all_goals go_ret
  all_goals exact⟨rfl,rfl⟩
theorem aCG (b:ByteArray)(n:Nat)(hn:n / 8<b.size):gB b (n:Int)=(b[n / 8]).toNat.testBit (n % 8):=by
 have h:n / 8<b.data.toList.length:=by simpa using hn
 simp only[gB,aDA,Int.toNat_natCast,dif_pos h];simp[ByteArray.getElem_eq_getElem_data]
theorem YM (b:ByteArray)(i:Int)(h:¬(0<=i/\i<8*(b.size:Int))):gB b i=false:=by
 unfold gB aDA
 by_cases h0:0<=i
 ·have:¬ i.toNat / 8<b.data.toList.length:=by simp;omega
  rw[dif_neg this,Bool.and_false]
 ·simp[h0]
theorem aCE (b:ByteArray)(n:Nat)(v:Bool)(w:World)(hi:n<9223372036854775808)(hr:Hid (rP b (n:Int)=true))(c:Nat)(hc:c<256)(hn:n / 8<b.size)(hb:b[n / 8].toNat=c)
  (hv:(bits .and .u8 ((c:Int) / 2 ^ (n % 8)) 1==1)=v) :
  () 184 #[b,(n:Int)] w fun e w'=>e=.returned (.bool v)/\w=w':=by
 have hn':(n:Int) / 8<(b.size:Int):=by omega
 have hk:n % 8<8:=by omega
 go_enter Tryz.func184,Tryz.ntmps184;go_wp2_with fail;refine(AR _ _ _ (by omega)).mono ?_;rw[hr.o];rintro e w1 ⟨rfl,rfl⟩;go_wp2_with fail;go_ret;exact⟨aS (by simp),rfl⟩
theorem aEF (b:ByteArray)(i:Int)(w:World)(hi:i<9223372036854775808)(hr:Hid (rP b i=false)) :
  () 184 #[b,i] w fun e w'=>e=.returned (.bool false)/\w=w':=by
 go_enter Tryz.func184,Tryz.ntmps184;go_wp2_with fail;refine(AR _ _ _ hi).mono ?_;rw[hr.o];rintro e w1 ⟨rfl,rfl⟩;go_wp2_with fail;go_ret;exact⟨rfl,rfl⟩
theorem aCF (b:ByteArray)(i:Int)(w:World)(hi:i<9223372036854775808) :
  () 184 #[b,i] w fun e w'=>e=.returned (.bool (gB b i))/\w=w':=by
 by_cases h:0<=i/\i<8*(b.size:Int)
 ·obtain⟨n,rfl⟩:=Int.eq_ofNat_of_zero_le h.1
  have hn:n / 8<b.size:=by omega
  have hr:rP b (n:Int)=true:=by unfold rP;exact decide_eq_true h
  refine aCE b n _ w (by omega) (Hd hr) _ (UInt8.toNat_lt b[n / 8]) hn rfl ?_;rw[AB _ _ (UInt8.toNat_lt b[n / 8])];exact(aCG b n hn).symm
 ·have hr:rP b i=false:=by unfold rP;exact decide_eq_false h
  rw[YM b i h];exact aEF b i w hi (Hd hr)
