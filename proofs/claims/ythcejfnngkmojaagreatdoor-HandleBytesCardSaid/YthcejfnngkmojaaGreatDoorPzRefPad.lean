/-
 RefPad.
-/
import Derived.Test.YthcejfnngkmojaaGreatDoorPzTail
import Derived.Outline
namespace Go.Proofs.YthcejfnngkmojaaGreatDoor
open Go.RowKit
set_option maxRecDepth 20000
set_option maxHeartbeats 12800000
set_option linter.unusedVariables false
set_option linter.unusedSimpArgs false
theorem OQ (l:List UInt8):S.padded l=l ++ (0x80 :: (List.replicate (S.zeros l.length) 0 ++ M.be 8 (l.length * 8))):=by
 unfold S.padded S.tail
 have h:S.zeros (l.drop (l.length / 64 * 64)).length=S.zeros l.length:=by
  unfold S.zeros; rw [List.length_drop]; omega
 rw [h,List.append_assoc,List.append_assoc,← List.append_assoc (l.take _),List.take_append_drop]
 rfl
theorem fL (w:World) (x:UInt8) (z:Int) (hz:(x.toNat:Int)=z) :
  (convert 31 9 (.slice (some ⟨w.heap.size,0,none⟩) 1 1)).run Tryz.prog (w.alloc (.cells #[.int .u8 z] 5))=.ok (.string (Str [x])) (w.alloc (.cells #[.int .u8 z] 5)):=by
 subst hz;refine run_convert_bytes_back (P:=Tryz.prog) _ 31 9 5 ⟨w.heap.size,0,none⟩ 1 [x] Tryz.underlying31 Tryz.underlying5 Tryz.underlying9 (fun j hj=>?_);obtain rfl:j=0:=by simp at hj; exact hj
 rw [bU,World.cell?_alloc_new]
 rfl
theorem gO (a b:List UInt8):Str a ++ Str b=Str (a ++ b):=by rw [nM,aP]
theorem cT (x:Nat) (h:x < 256):((UInt8.ofNat x).toNat:Int)=(x:Int):=by
 simp [Nat.mod_eq_of_lt h]
theorem sK (s t0:ByteArray) (l:List UInt8) (hl:s.size=l.length) (h0:Hid (s ++ ⟨#[128]⟩=t0)) (ht0:Hid (t0=Str (l ++ [128]))) (hz:l.length≤1048576) (w:World) (P:List UInt8) (HP:Hid (S.padded l=P)) :
  Calls Tryz.prog 158 #[.string s] w fun e w' => e=.returned (.string (Str P))∧Below w.heap.size w w' := by
 have HPE:=Hd ((OQ l).symm.trans HP.out);have s80:(⟨#[128]⟩:ByteArray).size=1:=rfl;have c80:(9223372036854775807 < l.length + 1)=False:=by rw [eq_iff_iff,iff_false]; omega
 go_enter Tryz.func158,Tryz.ntmps158;go_wp2_with fail;rw [h0.out];clear s80 c80;have HA:Hid (t0=Str (l ++ 128 :: List.replicate 0 0)):=ht0
 go_loopg [0] (S.zeros l.length) (fun k v wr=>∃ (m:Nat) (t:ByteArray),m≤S.zeros l.length∧k=S.zeros l.length - m∧v=.string t∧Hid (t=Str (l ++ 128 :: List.replicate m 0))∧wr=w)
 case atStart=>exact ⟨0,t0,Nat.zero_le _,rfl,rfl,HA,rfl⟩
 case round =>
  obtain ⟨m,t,hm,rfl,rfl,HT,rfl⟩:=hrel;clear HA ht0 h0;have hts:t.size=l.length + 1 + m:=by rw [HT.out,aK]; simp; omega
  have hZ64:S.zeros l.length < 64:=by unfold S.zeros; omega
  by_cases hmz:m=S.zeros l.length
  ·have hcond:(t.size:Int) % 64=56:=by unfold S.zeros at hmz; omega
   have HT2:Hid (t=Str (l ++ tkS (S.zeros l.length) (l.length * 8) 0)):=Hd (by rw [HT.out,JU,hmz]);have hts2:Hid (t.size≤1048700):=Hd (by omega);clear hts HT hm hZ64;go_wp2_with fail;clear hcond;subst hmz;generalize ((t.size:Int) % 64 != 56)=bb
   go_loopg [0,4] 8 (fun k v i wr2=>∃ (j:Nat) (t:ByteArray),j≤8∧k=8 - j∧v=.string t∧i=.int .i64 (7 - (j:Int))∧Hid (t=Str (l ++ tkS (S.zeros l.length) (l.length * 8) j))∧Hid (t.size≤1048700 + j)∧Hid (Below wr.heap.size wr wr2))
   case atStart=>exact ⟨0,t,by omega,rfl,rfl,rfl,HT2,hts2,Hd Br⟩
   case round =>
    obtain ⟨j,t,hj,rfl,rfl,rfl,HT,HS,HB⟩:=hrel
    by_cases hj8:j < 8
    ·obtain rfl | rfl | rfl | rfl | rfl | rfl | rfl | rfl:j=0∨j=1∨j=2∨j=3∨j=4∨j=5∨j=6∨j=7:=by omega
     ·have hby:((UInt8.ofNat (l.length * 8 / 256 ^ (7 - 0) % 256)).toNat:Int)=8 * (l.length:Int) / 72057594037927936:=by rw [cT _ (by omega)]; omega
      have hcv:=fL wr (UInt8.ofNat (l.length * 8 / 256 ^ (7 - 0) % 256)) _ hby;have STEP:=Hd (dD (S.zeros l.length) (l.length * 8) 0 (by omega));generalize UInt8.ofNat (l.length * 8 / 256 ^ (7 - 0) % 256)=b at *;obtain ⟨t2,ht2⟩:∃ t2,t ++ Str [b]=t2:=⟨_,rfl⟩
      have HT3:Hid (t2=Str (l ++ tkS (S.zeros l.length) (l.length * 8) (0 + 1))):=Hd (by
       rw [← ht2,HT.out,gO,List.append_assoc,STEP.out])
      have HS3:Hid (t2.size≤1048700 + (0 + 1)):=Hd (by rw [← ht2,ByteArray.size_append,aK]; have:=HS.out; simp; omega);have s1:(Str [b]).size=1:=aK _;have c1:(9223372036854775807 < t.size + 1)=False:=by rw [eq_iff_iff,iff_false]; have:=HS.out; omega
      have FB:=Hd (HB.out.alloc HB.out.size (.cells #[.int .u8 (8 * (l.length:Int) / 72057594037927936)] 5));clear hby STEP HT HS HB;go_wp2_with fail
      go_roundg (8 - (0 + 1))
      case measure=>exact (by decide)
      case rel=>exact ⟨0 + 1,t2,by omega,rfl,rfl,rfl,HT3,HS3,FB⟩
     ·have hby:((UInt8.ofNat (l.length * 8 / 256 ^ (7 - 1) % 256)).toNat:Int)=8 * (l.length:Int) / 281474976710656:=by rw [cT _ (by omega)]; omega
      have hcv:=fL wr (UInt8.ofNat (l.length * 8 / 256 ^ (7 - 1) % 256)) _ hby;have STEP:=Hd (dD (S.zeros l.length) (l.length * 8) 1 (by omega));generalize UInt8.ofNat (l.length * 8 / 256 ^ (7 - 1) % 256)=b at *;obtain ⟨t2,ht2⟩:∃ t2,t ++ Str [b]=t2:=⟨_,rfl⟩
      have HT3:Hid (t2=Str (l ++ tkS (S.zeros l.length) (l.length * 8) (1 + 1))):=Hd (by
       rw [← ht2,HT.out,gO,List.append_assoc,STEP.out])
      have HS3:Hid (t2.size≤1048700 + (1 + 1)):=Hd (by rw [← ht2,ByteArray.size_append,aK]; have:=HS.out; simp; omega);have s1:(Str [b]).size=1:=aK _;have c1:(9223372036854775807 < t.size + 1)=False:=by rw [eq_iff_iff,iff_false]; have:=HS.out; omega
      have FB:=Hd (HB.out.alloc HB.out.size (.cells #[.int .u8 (8 * (l.length:Int) / 281474976710656)] 5));clear hby STEP HT HS HB;go_wp2_with fail
      go_roundg (8 - (1 + 1))
      case measure=>exact (by decide)
      case rel=>exact ⟨1 + 1,t2,by omega,rfl,rfl,rfl,HT3,HS3,FB⟩
     ·have hby:((UInt8.ofNat (l.length * 8 / 256 ^ (7 - 2) % 256)).toNat:Int)=8 * (l.length:Int) / 1099511627776:=by rw [cT _ (by omega)]; omega
      have hcv:=fL wr (UInt8.ofNat (l.length * 8 / 256 ^ (7 - 2) % 256)) _ hby;have STEP:=Hd (dD (S.zeros l.length) (l.length * 8) 2 (by omega));generalize UInt8.ofNat (l.length * 8 / 256 ^ (7 - 2) % 256)=b at *;obtain ⟨t2,ht2⟩:∃ t2,t ++ Str [b]=t2:=⟨_,rfl⟩
      have HT3:Hid (t2=Str (l ++ tkS (S.zeros l.length) (l.length * 8) (2 + 1))):=Hd (by
       rw [← ht2,HT.out,gO,List.append_assoc,STEP.out])
      have HS3:Hid (t2.size≤1048700 + (2 + 1)):=Hd (by rw [← ht2,ByteArray.size_append,aK]; have:=HS.out; simp; omega);have s1:(Str [b]).size=1:=aK _;have c1:(9223372036854775807 < t.size + 1)=False:=by rw [eq_iff_iff,iff_false]; have:=HS.out; omega
      have FB:=Hd (HB.out.alloc HB.out.size (.cells #[.int .u8 (8 * (l.length:Int) / 1099511627776)] 5));clear hby STEP HT HS HB;go_wp2_with fail
      go_roundg (8 - (2 + 1))
      case measure=>exact (by decide)
      case rel=>exact ⟨2 + 1,t2,by omega,rfl,rfl,rfl,HT3,HS3,FB⟩
     ·have hby:((UInt8.ofNat (l.length * 8 / 256 ^ (7 - 3) % 256)).toNat:Int)=8 * (l.length:Int) / 4294967296:=by rw [cT _ (by omega)]; omega
      have hcv:=fL wr (UInt8.ofNat (l.length * 8 / 256 ^ (7 - 3) % 256)) _ hby;have STEP:=Hd (dD (S.zeros l.length) (l.length * 8) 3 (by omega));generalize UInt8.ofNat (l.length * 8 / 256 ^ (7 - 3) % 256)=b at *;obtain ⟨t2,ht2⟩:∃ t2,t ++ Str [b]=t2:=⟨_,rfl⟩
      have HT3:Hid (t2=Str (l ++ tkS (S.zeros l.length) (l.length * 8) (3 + 1))):=Hd (by
       rw [← ht2,HT.out,gO,List.append_assoc,STEP.out])
      have HS3:Hid (t2.size≤1048700 + (3 + 1)):=Hd (by rw [← ht2,ByteArray.size_append,aK]; have:=HS.out; simp; omega);have s1:(Str [b]).size=1:=aK _;have c1:(9223372036854775807 < t.size + 1)=False:=by rw [eq_iff_iff,iff_false]; have:=HS.out; omega
      have FB:=Hd (HB.out.alloc HB.out.size (.cells #[.int .u8 (8 * (l.length:Int) / 4294967296)] 5));clear hby STEP HT HS HB;go_wp2_with fail
      go_roundg (8 - (3 + 1))
      case measure=>exact (by decide)
      case rel=>exact ⟨3 + 1,t2,by omega,rfl,rfl,rfl,HT3,HS3,FB⟩
     ·have hby:((UInt8.ofNat (l.length * 8 / 256 ^ (7 - 4) % 256)).toNat:Int)=8 * (l.length:Int) / 16777216:=by rw [cT _ (by omega)]; omega
      have hcv:=fL wr (UInt8.ofNat (l.length * 8 / 256 ^ (7 - 4) % 256)) _ hby;have STEP:=Hd (dD (S.zeros l.length) (l.length * 8) 4 (by omega));generalize UInt8.ofNat (l.length * 8 / 256 ^ (7 - 4) % 256)=b at *;obtain ⟨t2,ht2⟩:∃ t2,t ++ Str [b]=t2:=⟨_,rfl⟩
      have HT3:Hid (t2=Str (l ++ tkS (S.zeros l.length) (l.length * 8) (4 + 1))):=Hd (by
       rw [← ht2,HT.out,gO,List.append_assoc,STEP.out])
      have HS3:Hid (t2.size≤1048700 + (4 + 1)):=Hd (by rw [← ht2,ByteArray.size_append,aK]; have:=HS.out; simp; omega);have s1:(Str [b]).size=1:=aK _;have c1:(9223372036854775807 < t.size + 1)=False:=by rw [eq_iff_iff,iff_false]; have:=HS.out; omega
      have FB:=Hd (HB.out.alloc HB.out.size (.cells #[.int .u8 (8 * (l.length:Int) / 16777216)] 5));clear hby STEP HT HS HB;go_wp2_with fail
      go_roundg (8 - (4 + 1))
      case measure=>exact (by decide)
      case rel=>exact ⟨4 + 1,t2,by omega,rfl,rfl,rfl,HT3,HS3,FB⟩
     ·have hby:((UInt8.ofNat (l.length * 8 / 256 ^ (7 - 5) % 256)).toNat:Int)=8 * (l.length:Int) / 65536:=by rw [cT _ (by omega)]; omega
      have hcv:=fL wr (UInt8.ofNat (l.length * 8 / 256 ^ (7 - 5) % 256)) _ hby;have STEP:=Hd (dD (S.zeros l.length) (l.length * 8) 5 (by omega));generalize UInt8.ofNat (l.length * 8 / 256 ^ (7 - 5) % 256)=b at *;obtain ⟨t2,ht2⟩:∃ t2,t ++ Str [b]=t2:=⟨_,rfl⟩
      have HT3:Hid (t2=Str (l ++ tkS (S.zeros l.length) (l.length * 8) (5 + 1))):=Hd (by
       rw [← ht2,HT.out,gO,List.append_assoc,STEP.out])
      have HS3:Hid (t2.size≤1048700 + (5 + 1)):=Hd (by rw [← ht2,ByteArray.size_append,aK]; have:=HS.out; simp; omega);have s1:(Str [b]).size=1:=aK _;have c1:(9223372036854775807 < t.size + 1)=False:=by rw [eq_iff_iff,iff_false]; have:=HS.out; omega
      have FB:=Hd (HB.out.alloc HB.out.size (.cells #[.int .u8 (8 * (l.length:Int) / 65536)] 5));clear hby STEP HT HS HB;go_wp2_with fail
      go_roundg (8 - (5 + 1))
      case measure=>exact (by decide)
      case rel=>exact ⟨5 + 1,t2,by omega,rfl,rfl,rfl,HT3,HS3,FB⟩
     ·have hby:((UInt8.ofNat (l.length * 8 / 256 ^ (7 - 6) % 256)).toNat:Int)=8 * (l.length:Int) / 256 % 256:=by rw [cT _ (by omega)]; omega
      have hcv:=fL wr (UInt8.ofNat (l.length * 8 / 256 ^ (7 - 6) % 256)) _ hby;have STEP:=Hd (dD (S.zeros l.length) (l.length * 8) 6 (by omega));generalize UInt8.ofNat (l.length * 8 / 256 ^ (7 - 6) % 256)=b at *;obtain ⟨t2,ht2⟩:∃ t2,t ++ Str [b]=t2:=⟨_,rfl⟩
      have HT3:Hid (t2=Str (l ++ tkS (S.zeros l.length) (l.length * 8) (6 + 1))):=Hd (by
       rw [← ht2,HT.out,gO,List.append_assoc,STEP.out])
      have HS3:Hid (t2.size≤1048700 + (6 + 1)):=Hd (by rw [← ht2,ByteArray.size_append,aK]; have:=HS.out; simp; omega);have s1:(Str [b]).size=1:=aK _;have c1:(9223372036854775807 < t.size + 1)=False:=by rw [eq_iff_iff,iff_false]; have:=HS.out; omega
      have FB:=Hd (HB.out.alloc HB.out.size (.cells #[.int .u8 (8 * (l.length:Int) / 256 % 256)] 5));clear hby STEP HT HS HB;go_wp2_with fail
      go_roundg (8 - (6 + 1))
      case measure=>exact (by decide)
      case rel=>exact ⟨6 + 1,t2,by omega,rfl,rfl,rfl,HT3,HS3,FB⟩
     ·have hby:((UInt8.ofNat (l.length * 8 / 256 ^ (7 - 7) % 256)).toNat:Int)=8 * (l.length:Int) % 256:=by rw [cT _ (by omega)]; omega
      have hcv:=fL wr (UInt8.ofNat (l.length * 8 / 256 ^ (7 - 7) % 256)) _ hby;have STEP:=Hd (dD (S.zeros l.length) (l.length * 8) 7 (by omega));generalize UInt8.ofNat (l.length * 8 / 256 ^ (7 - 7) % 256)=b at *;obtain ⟨t2,ht2⟩:∃ t2,t ++ Str [b]=t2:=⟨_,rfl⟩
      have HT3:Hid (t2=Str (l ++ tkS (S.zeros l.length) (l.length * 8) (7 + 1))):=Hd (by
       rw [← ht2,HT.out,gO,List.append_assoc,STEP.out])
      have HS3:Hid (t2.size≤1048700 + (7 + 1)):=Hd (by rw [← ht2,ByteArray.size_append,aK]; have:=HS.out; simp; omega);have s1:(Str [b]).size=1:=aK _;have c1:(9223372036854775807 < t.size + 1)=False:=by rw [eq_iff_iff,iff_false]; have:=HS.out; omega
      have FB:=Hd (HB.out.alloc HB.out.size (.cells #[.int .u8 (8 * (l.length:Int) % 256)] 5));clear hby STEP HT HS HB;go_wp2_with fail
      go_roundg (8 - (7 + 1))
      case measure=>exact (by decide)
      case rel=>exact ⟨7 + 1,t2,by omega,rfl,rfl,rfl,HT3,HS3,FB⟩
    ·obtain rfl:j=8:=by omega
     have HE:Hid (t=Str P):=Hd (by
      rw [HT.out,← HPE.out];unfold tkS;rw [List.take_of_length_le (by rw [M.be_length]; omega)]
      rfl)
     go_wp2_with fail;go_ret;exact ⟨by rw [HE.out]; rfl,HB.out⟩
  ·have hcond:¬ ((t.size:Int) % 64=56):=by unfold S.zeros at hmz hm; omega
   have s00:(⟨#[0]⟩:ByteArray).size=1:=rfl;have c00:(9223372036854775807 < t.size + 1)=False:=by rw [eq_iff_iff,iff_false]; omega
   obtain ⟨t2,ht2⟩:∃ t2,t ++ ⟨#[0]⟩=t2:=⟨_,rfl⟩
   have HT2:Hid (t2=Str (l ++ 128 :: List.replicate (m + 1) 0)):=Hd (by
    rw [← ht2,HT.out,show (⟨#[0]⟩:ByteArray)=Str [0] from rfl,gO,List.replicate_succ']; simp)
   clear hts;go_wp2_with fail
   go_roundg (S.zeros l.length - (m + 1))
   case measure=>omega
   case rel=>exact ⟨m + 1,t2,by omega,rfl,rfl,HT2,rfl⟩
theorem uC (s:ByteArray) (w:World) (hz:s.size≤1048576) :
  Calls Tryz.prog 158 #[.string s] w fun e w' => e=.returned (.string (Str (S.padded s.data.toList)))∧Below w.heap.size w w' :=
 sK s _ s.data.toList (by simp) (Hd rfl) (Hd (by rw [← gO,YM]; rfl)) (by simpa using hz) w _ (Hd rfl)
end Go.Proofs.YthcejfnngkmojaaGreatDoor
