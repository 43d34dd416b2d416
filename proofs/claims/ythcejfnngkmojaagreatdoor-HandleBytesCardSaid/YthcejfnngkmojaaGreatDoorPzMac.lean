/-
 Mac.
-/
import Derived.Test.YthcejfnngkmojaaGreatDoorPzMac0
namespace Go.Proofs.YthcejfnngkmojaaGreatDoor
open Go.RowKit
set_option maxRecDepth 20000
set_option maxHeartbeats 12800000
set_option linter.unusedVariables false
set_option linter.unusedSimpArgs false
theorem qF (p:Nat) (key:ByteArray) (m:UInt8) (z:Int) (hz:(m.toNat:Int)=z) (w:World) (hp:p < w.heap.size) (hc:w.cell? ⟨p,0,none⟩=some (.string key)) (hk:key.size≤64) :
  Calls Tryz.prog 151 #[.int .u8 z,.pointer (some ⟨p,0,none⟩)] w fun e w' => e=.returned (.string (mL key m))∧Below w.heap.size w w' := by
 subst hz;exact wF p key m w hp hc hk _ (Hd rfl)
def jX (key:ByteArray):ByteArray:=if 64 < key.size then pG key else key
theorem gC (key:ByteArray):(jX key).size≤64:=by
 unfold jX
 split
 ·rw [mA]; decide
 ·omega
def aB2 (p:Nat):Value:=.func (.func 151) #[] #[.pointer (some ⟨p,0,none⟩)]
theorem EC (key:ByteArray) (w:World) (hk:key.size≤140737488351232) :
  Calls Tryz.prog 129 #[.string key] w fun e w' => ∃ p,e=.returned (aB2 p)∧p < w'.heap.size∧w'.cell? ⟨p,0,none⟩=some (.string (jX key))∧Below w.heap.size w w' := by
 by_cases h64:64 < key.size
 ·have hl:64 < (key.size:Int):=by omega
  have HK:Hid (pG key=jX key):=Hd (by unfold jX; rw [if_pos h64]);go_enter Tryz.func129,Tryz.ntmps129;go_wp2_with fail;have hn:(w.alloc (.cells #[.string key] 9)).heap[w.heap.size]?=some (.cells #[.string key] 9 (0,0)):=heap_alloc_new w _;have hb0:Below w.heap.size w (w.alloc (.cells #[.string key] 9)):=Br.alloc (Nat.le_refl _) _;have hlt:w.heap.size < (w.alloc (.cells #[.string key] 9)).heap.size:=by simp
  generalize w.alloc (.cells #[.string key] 9)=wa at *;refine (EI _ _ (by omega)).mono ?_;rw [HK.out];rintro e w1 ⟨rfl,b1⟩;have hn1:=(b1.block _ hlt).trans hn;have c1:=cell_of_row w1 w.heap.size 0 _ _ _ hn1;have f1:=frozen_of_row w1 w.heap.size 0 _ _ hn1;have FB:Hid (Below w.heap.size w (w1.setCell ⟨w.heap.size,0,none⟩ (.string (jX key)))):=Hd ((hb0.trans (b1.mono (Nat.le_of_lt hlt))).setCell (Nat.le_refl _) _);have hlt1:w.heap.size < w1.heap.size:=(Array.getElem?_eq_some_iff.1 hn1).1
  have FC:Hid ((w1.setCell ⟨w.heap.size,0,none⟩ (.string (jX key))).cell? ⟨w.heap.size,0,none⟩=some (.string (jX key))):=Hd (World.cell?_setCell_same _ _ _ c1);have FS:Hid (w.heap.size < (w1.setCell ⟨w.heap.size,0,none⟩ (.string (jX key))).heap.size):=Hd (by simpa [World.setCell] using hlt1);simp only [List.getElem?_toArray] at c1;clear HK;clear hn hn1 hb0 b1;go_wp2_with fail;go_ret;exact ⟨_,rfl,FS.out,FC.out,FB.out⟩
 ·have hl:(key.size:Int)≤64:=by omega
  have HK:jX key=key:=by unfold jX; rw [if_neg h64]
  rw [HK];go_enter Tryz.func129,Tryz.ntmps129;go_wp2_with fail;go_ret;exact ⟨_,rfl,by simp,by rw [World.cell?_alloc_new]; rfl,Br.alloc (Nat.le_refl _) _⟩
def BI (key s:ByteArray):ByteArray:=pG (mL (jX key) 0x5c ++ pG (mL (jX key) 0x36 ++ s))
theorem pS (key s:ByteArray):(BI key s).size=32:=mA _
theorem VX (key s ko ki si m:ByteArray) (w:World) (hk:key.size≤140737488351232) (hs:s.size≤140737488351232)
  (HO:Hid (mL (jX key) 0x5c=ko)) (HI:Hid (mL (jX key) 0x36=ki)) (HS:Hid (pG (ki ++ s)=si)) (HM:Hid (pG (ko ++ si)=m)) (ho:ko.size=64) (hi:ki.size=64) (hsi:si.size=32) :
  Calls Tryz.prog 108 #[.string key,.string s] w fun e w' => e=.returned (.string m)∧Below w.heap.size w w' := by
 go_enter Tryz.func108,Tryz.ntmps108;go_wp2_with fail;refine (EC _ _ hk).mono ?_;rintro e w1 ⟨p,rfl,hp,hc,bb⟩;have HC:=Hd hc;clear hc;unfold aB2;go_wp2_with fail;refine (qF p (jX key) 0x5c 92 rfl _ hp HC.out (gC _)).mono ?_;rw [HO.out];rintro e w2 ⟨rfl,b2⟩;have HC2:=Hd ((b2.cell (p:=⟨p,0,none⟩) hp).trans HC.out);have hp2:=Nat.lt_of_lt_of_le hp b2.size
 replace bb:=chain bb b2
 clear b2;go_wp2_with fail;refine (qF p (jX key) 0x36 54 rfl _ hp2 HC2.out (gC _)).mono ?_;rw [HI.out];rintro e w3 ⟨rfl,b3⟩
 replace bb:=chain bb b3
 clear b3;go_wp2_with fail;refine (EI _ _ (by rw [ByteArray.size_append]; omega)).mono ?_;rw [HS.out];rintro e w3 ⟨rfl,b3⟩
 replace bb:=chain bb b3
 clear b3;go_wp2_with fail;refine (EI _ _ (by rw [ByteArray.size_append]; omega)).mono ?_;rw [HM.out];rintro e w3 ⟨rfl,b3⟩
 replace bb:=chain bb b3
 clear b3;go_wp2_with fail;go_ret;exact ⟨rfl,bb⟩
theorem aC4 (key s:ByteArray) (w:World) (hk:key.size≤140737488351232) (hs:s.size≤140737488351232) :
  Calls Tryz.prog 108 #[.string key,.string s] w fun e w' => e=.returned (.string (BI key s))∧Below w.heap.size w w' :=
 VX key s _ _ _ _ w hk hs (Hd rfl) (Hd rfl) (Hd rfl) (Hd rfl) (kH _ _ (gC _)) (kH _ _ (gC _)) (mA _)
theorem SX (key s:ByteArray) (w:World) (hk:key.size≤140737488351232) (hs:s.size≤140737488351232) :
  Calls Tryz.prog 66 #[.string key,.string s] w fun e w' => e=.returned (.string ((BI key s).extract 0 16))∧Below w.heap.size w w' := by
 have hm:=pS key s;have HM:=Hd (aC4 key s w hk hs);generalize BI key s=m at *;go_enter Tryz.func66,Tryz.ntmps66;go_wp2_with fail;refine HM.out.mono ?_;rintro e w3 ⟨rfl,b3⟩;go_wp2_with fail;go_ret;exact ⟨rfl,b3⟩
end Go.Proofs.YthcejfnngkmojaaGreatDoor
