/-
 RefMacS.
-/
import Derived.Test.YthcejfnngkmojaaGreatDoorPzMac
import Derived.Test.YthcejfnngkmojaaGreatDoorPzRefTurned
import Derived.Test.YthcejfnngkmojaaGreatDoorPzRefSum
import Derived.Outline
namespace Go.Proofs.YthcejfnngkmojaaGreatDoor
open Go.RowKit
set_option maxRecDepth 20000
set_option maxHeartbeats 12800000
set_option linter.unusedVariables false
set_option linter.unusedSimpArgs false
theorem AI (key s k ko ki si m:ByteArray) (w:World) (hk:key.size≤300) (hs:s.size≤300) (HK:Hid (jX key=k)) (hk64:k.size≤64)
  (HO:Hid (mL k 0x5c=ko)) (HI:Hid (mL k 0x36=ki)) (HS:Hid (pG (ki ++ s)=si)) (HM:Hid (pG (ko ++ si)=m)) (ho:ko.size=64) (hi:ki.size=64) (hsi:si.size=32) :
  Calls Tryz.prog 110 #[.string key,.string s] w fun e w' => e=.returned (.string m)∧Below w.heap.size w w' := by
 by_cases h64:64 < key.size
 ·have hl:64 < (key.size:Int):=by omega
  have HK2:Hid (pG key=k):=Hd (by have:=HK.out; unfold jX at this; rwa [if_pos h64] at this);go_enter Tryz.func110,Tryz.ntmps110;go_wp2_with fail;refine (jT _ _ (by omega)).mono ?_;rw [HK2.out];rintro e w3 ⟨rfl,bb⟩;go_wp2_with fail;refine (iD k 0x5c 92 rfl _ hk64).mono ?_;rw [HO.out];rintro e w3 ⟨rfl,b3⟩
  replace bb:=chain bb b3
  clear b3;go_wp2_with fail;refine (iD k 0x36 54 rfl _ hk64).mono ?_;rw [HI.out];rintro e w3 ⟨rfl,b3⟩
  replace bb:=chain bb b3
  clear b3;go_wp2_with fail;refine (jT _ _ (by rw [ByteArray.size_append]; omega)).mono ?_;rw [HS.out];rintro e w3 ⟨rfl,b3⟩
  replace bb:=chain bb b3
  clear b3;go_wp2_with fail;refine (jT _ _ (by rw [ByteArray.size_append]; omega)).mono ?_;rw [HM.out];rintro e w3 ⟨rfl,b3⟩
  replace bb:=chain bb b3
  clear b3;go_wp2_with fail;go_ret;exact ⟨rfl,bb⟩
 ·have hl:(key.size:Int)≤64:=by omega
  have HK2:key=k:=by have:=HK.out; unfold jX at this; rwa [if_neg h64] at this
  subst HK2;go_enter Tryz.func110,Tryz.ntmps110;go_wp2_with fail;refine (iD key 0x5c 92 rfl _ hk64).mono ?_;rw [HO.out];rintro e w3 ⟨rfl,bb⟩;go_wp2_with fail;refine (iD key 0x36 54 rfl _ hk64).mono ?_;rw [HI.out];rintro e w3 ⟨rfl,b3⟩
  replace bb:=chain bb b3
  clear b3;go_wp2_with fail;refine (jT _ _ (by rw [ByteArray.size_append]; omega)).mono ?_;rw [HS.out];rintro e w3 ⟨rfl,b3⟩
  replace bb:=chain bb b3
  clear b3;go_wp2_with fail;refine (jT _ _ (by rw [ByteArray.size_append]; omega)).mono ?_;rw [HM.out];rintro e w3 ⟨rfl,b3⟩
  replace bb:=chain bb b3
  clear b3;go_wp2_with fail;go_ret;exact ⟨rfl,bb⟩
theorem NW (key s:ByteArray) (w:World) (hk:key.size≤300) (hs:s.size≤300) :
  Calls Tryz.prog 110 #[.string key,.string s] w fun e w' => e=.returned (.string (BI key s))∧Below w.heap.size w w' :=
 AI key s _ _ _ _ _ w hk hs (Hd rfl) (gC _) (Hd rfl) (Hd rfl) (Hd rfl) (Hd rfl) (kH _ _ (gC _)) (kH _ _ (gC _)) (mA _)
theorem uZ (key s:ByteArray) (w:World) (hk:key.size≤300) (hs:s.size≤300) :
  Calls Tryz.prog 68 #[.string key,.string s] w fun e w' => e=.returned (.string ((BI key s).extract 0 16))∧Below w.heap.size w w' := by
 have hm:=pS key s;have HM:=Hd (NW key s w hk hs);generalize BI key s=m at *;go_enter Tryz.func68,Tryz.ntmps68;go_wp2_with fail;refine HM.out.mono ?_;rintro e w3 ⟨rfl,b3⟩;go_wp2_with fail;go_ret;exact ⟨rfl,b3⟩
end Go.Proofs.YthcejfnngkmojaaGreatDoor
