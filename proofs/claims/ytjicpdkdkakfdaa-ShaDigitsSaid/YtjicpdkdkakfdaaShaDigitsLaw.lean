import Derived.Test.YtjicpdkdkakfdaaEx03
import Derived.Test.YtjicpdkdkakfdaaZeros
import Derived.Outline
namespace Go.Proofs.Ytjicpdkdkakfdaa
open Go.RowKit
set_option linter.unusedVariables false

set_option maxHeartbeats 1600000 in
theorem shaDigits_bb (a b c d h1 h2 y g z : ByteArray) (n : Nat) (w : World) (hn : n ≤ 255) (ha : a.size ≤ 140737488351232) (hb : b.size ≤ 140737488351232) (hc : Hid (a.extract 0 200 = c)) (hcs : (c.size : Int) ≤ 200) (haa : 200 < (a.size : Int)) (hd : Hid (b.extract 0 200 = d)) (hds : (d.size : Int) ≤ 200) (hbb : 200 < (b.size : Int))
    (H1 : Hid (hexB c = h1)) (H2 : Hid (hexB d = h2)) (HY : Hid (sumB c = y)) (HG : Hid (hexB y = g)) (HZ : Hid (sumB (Str (List.replicate n 0)) = z)) (h1s : (h1.size : Int) ≤ 400) (h2s : (h2.size : Int) ≤ 400) (ys : y.size = 32) (gs : g.size = 64) (zs : z.size = 32) :
    Calls Try.prog 6 #[.string a, .string b, .int .u8 (n : Int)] w fun e w' => e = .returned (.bool true) ∧ Below w.heap.size w w' := by
  go_enter Try.func6, Try.ntmps6
  try simp only [List.append_eq, List.cons_append, List.nil_append]
  go_wp2_with fail
  refine (examples_any _).mono ?_
  rintro e w1 ⟨rfl, bb⟩
  obtain ⟨w2, hmk, hbuf, bz, hcv⟩ := Buf.zeros w1 n (by omega)
  replace bb := chain bb bz
  clear bz hbuf
  go_wp2_with fail
  rw [hc.out]
  rw [hd.out]
  have HA : Hid (hexB (c ++ d) = h1 ++ h2) := Lib.hid (by rw [hexB_append, H1.out, H2.out])
  refine (hex_is _ _ (by rw [ByteArray.size_append]; omega)).mono ?_
  rw [HA.out]
  rintro e w9 ⟨rfl, b9⟩
  replace bb := chain bb b9
  clear b9
  go_wp2_with fail
  refine (hex_is _ _ (by omega)).mono ?_
  rw [H1.out]
  rintro e w9 ⟨rfl, b9⟩
  replace bb := chain bb b9
  clear b9
  go_wp2_with fail
  refine (hex_is _ _ (by omega)).mono ?_
  rw [H2.out]
  rintro e w9 ⟨rfl, b9⟩
  replace bb := chain bb b9
  clear b9
  go_wp2_with fail
  refine (sum_is _ _ (by omega)).mono ?_
  rw [HY.out]
  rintro e w9 ⟨rfl, b9⟩
  replace bb := chain bb b9
  clear b9
  go_wp2_with fail
  refine (hex_is _ _ (by omega)).mono ?_
  rw [HG.out]
  rintro e w9 ⟨rfl, b9⟩
  replace bb := chain bb b9
  clear b9
  go_wp2_with fail
  refine (sum_is _ _ (by rw [Str_size, List.length_replicate]; omega)).mono ?_
  rw [HZ.out]
  rintro e w9 ⟨rfl, b9⟩
  replace bb := chain bb b9
  clear b9
  go_wp2_with fail
  go_ret
  refine ⟨ret_true ?_, bb⟩
  first | (simp; done) | (simp; omega)
set_option maxHeartbeats 1600000 in
theorem shaDigits_bs (a b c d h1 h2 y g z : ByteArray) (n : Nat) (w : World) (hn : n ≤ 255) (ha : a.size ≤ 140737488351232) (hb : b.size ≤ 140737488351232) (hc : Hid (a.extract 0 200 = c)) (hcs : (c.size : Int) ≤ 200) (haa : 200 < (a.size : Int)) (hbb : (b.size : Int) ≤ 200)
    (H1 : Hid (hexB c = h1)) (H2 : Hid (hexB b = h2)) (HY : Hid (sumB c = y)) (HG : Hid (hexB y = g)) (HZ : Hid (sumB (Str (List.replicate n 0)) = z)) (h1s : (h1.size : Int) ≤ 400) (h2s : (h2.size : Int) ≤ 400) (ys : y.size = 32) (gs : g.size = 64) (zs : z.size = 32) :
    Calls Try.prog 6 #[.string a, .string b, .int .u8 (n : Int)] w fun e w' => e = .returned (.bool true) ∧ Below w.heap.size w w' := by
  go_enter Try.func6, Try.ntmps6
  try simp only [List.append_eq, List.cons_append, List.nil_append]
  go_wp2_with fail
  refine (examples_any _).mono ?_
  rintro e w1 ⟨rfl, bb⟩
  obtain ⟨w2, hmk, hbuf, bz, hcv⟩ := Buf.zeros w1 n (by omega)
  replace bb := chain bb bz
  clear bz hbuf
  go_wp2_with fail
  rw [hc.out]
  have HA : Hid (hexB (c ++ b) = h1 ++ h2) := Lib.hid (by rw [hexB_append, H1.out, H2.out])
  refine (hex_is _ _ (by rw [ByteArray.size_append]; omega)).mono ?_
  rw [HA.out]
  rintro e w9 ⟨rfl, b9⟩
  replace bb := chain bb b9
  clear b9
  go_wp2_with fail
  refine (hex_is _ _ (by omega)).mono ?_
  rw [H1.out]
  rintro e w9 ⟨rfl, b9⟩
  replace bb := chain bb b9
  clear b9
  go_wp2_with fail
  refine (hex_is _ _ (by omega)).mono ?_
  rw [H2.out]
  rintro e w9 ⟨rfl, b9⟩
  replace bb := chain bb b9
  clear b9
  go_wp2_with fail
  refine (sum_is _ _ (by omega)).mono ?_
  rw [HY.out]
  rintro e w9 ⟨rfl, b9⟩
  replace bb := chain bb b9
  clear b9
  go_wp2_with fail
  refine (hex_is _ _ (by omega)).mono ?_
  rw [HG.out]
  rintro e w9 ⟨rfl, b9⟩
  replace bb := chain bb b9
  clear b9
  go_wp2_with fail
  refine (sum_is _ _ (by rw [Str_size, List.length_replicate]; omega)).mono ?_
  rw [HZ.out]
  rintro e w9 ⟨rfl, b9⟩
  replace bb := chain bb b9
  clear b9
  go_wp2_with fail
  go_ret
  refine ⟨ret_true ?_, bb⟩
  first | (simp; done) | (simp; omega)
set_option maxHeartbeats 1600000 in
theorem shaDigits_sb (a b c d h1 h2 y g z : ByteArray) (n : Nat) (w : World) (hn : n ≤ 255) (ha : a.size ≤ 140737488351232) (hb : b.size ≤ 140737488351232) (haa : (a.size : Int) ≤ 200) (hd : Hid (b.extract 0 200 = d)) (hds : (d.size : Int) ≤ 200) (hbb : 200 < (b.size : Int))
    (H1 : Hid (hexB a = h1)) (H2 : Hid (hexB d = h2)) (HY : Hid (sumB a = y)) (HG : Hid (hexB y = g)) (HZ : Hid (sumB (Str (List.replicate n 0)) = z)) (h1s : (h1.size : Int) ≤ 400) (h2s : (h2.size : Int) ≤ 400) (ys : y.size = 32) (gs : g.size = 64) (zs : z.size = 32) :
    Calls Try.prog 6 #[.string a, .string b, .int .u8 (n : Int)] w fun e w' => e = .returned (.bool true) ∧ Below w.heap.size w w' := by
  go_enter Try.func6, Try.ntmps6
  try simp only [List.append_eq, List.cons_append, List.nil_append]
  go_wp2_with fail
  refine (examples_any _).mono ?_
  rintro e w1 ⟨rfl, bb⟩
  obtain ⟨w2, hmk, hbuf, bz, hcv⟩ := Buf.zeros w1 n (by omega)
  replace bb := chain bb bz
  clear bz hbuf
  go_wp2_with fail
  rw [hd.out]
  have HA : Hid (hexB (a ++ d) = h1 ++ h2) := Lib.hid (by rw [hexB_append, H1.out, H2.out])
  refine (hex_is _ _ (by rw [ByteArray.size_append]; omega)).mono ?_
  rw [HA.out]
  rintro e w9 ⟨rfl, b9⟩
  replace bb := chain bb b9
  clear b9
  go_wp2_with fail
  refine (hex_is _ _ (by omega)).mono ?_
  rw [H1.out]
  rintro e w9 ⟨rfl, b9⟩
  replace bb := chain bb b9
  clear b9
  go_wp2_with fail
  refine (hex_is _ _ (by omega)).mono ?_
  rw [H2.out]
  rintro e w9 ⟨rfl, b9⟩
  replace bb := chain bb b9
  clear b9
  go_wp2_with fail
  refine (sum_is _ _ (by omega)).mono ?_
  rw [HY.out]
  rintro e w9 ⟨rfl, b9⟩
  replace bb := chain bb b9
  clear b9
  go_wp2_with fail
  refine (hex_is _ _ (by omega)).mono ?_
  rw [HG.out]
  rintro e w9 ⟨rfl, b9⟩
  replace bb := chain bb b9
  clear b9
  go_wp2_with fail
  refine (sum_is _ _ (by rw [Str_size, List.length_replicate]; omega)).mono ?_
  rw [HZ.out]
  rintro e w9 ⟨rfl, b9⟩
  replace bb := chain bb b9
  clear b9
  go_wp2_with fail
  go_ret
  refine ⟨ret_true ?_, bb⟩
  first | (simp; done) | (simp; omega)
set_option maxHeartbeats 1600000 in
theorem shaDigits_ss (a b c d h1 h2 y g z : ByteArray) (n : Nat) (w : World) (hn : n ≤ 255) (ha : a.size ≤ 140737488351232) (hb : b.size ≤ 140737488351232) (haa : (a.size : Int) ≤ 200) (hbb : (b.size : Int) ≤ 200)
    (H1 : Hid (hexB a = h1)) (H2 : Hid (hexB b = h2)) (HY : Hid (sumB a = y)) (HG : Hid (hexB y = g)) (HZ : Hid (sumB (Str (List.replicate n 0)) = z)) (h1s : (h1.size : Int) ≤ 400) (h2s : (h2.size : Int) ≤ 400) (ys : y.size = 32) (gs : g.size = 64) (zs : z.size = 32) :
    Calls Try.prog 6 #[.string a, .string b, .int .u8 (n : Int)] w fun e w' => e = .returned (.bool true) ∧ Below w.heap.size w w' := by
  go_enter Try.func6, Try.ntmps6
  try simp only [List.append_eq, List.cons_append, List.nil_append]
  go_wp2_with fail
  refine (examples_any _).mono ?_
  rintro e w1 ⟨rfl, bb⟩
  obtain ⟨w2, hmk, hbuf, bz, hcv⟩ := Buf.zeros w1 n (by omega)
  replace bb := chain bb bz
  clear bz hbuf
  go_wp2_with fail
  have HA : Hid (hexB (a ++ b) = h1 ++ h2) := Lib.hid (by rw [hexB_append, H1.out, H2.out])
  refine (hex_is _ _ (by rw [ByteArray.size_append]; omega)).mono ?_
  rw [HA.out]
  rintro e w9 ⟨rfl, b9⟩
  replace bb := chain bb b9
  clear b9
  go_wp2_with fail
  refine (hex_is _ _ (by omega)).mono ?_
  rw [H1.out]
  rintro e w9 ⟨rfl, b9⟩
  replace bb := chain bb b9
  clear b9
  go_wp2_with fail
  refine (hex_is _ _ (by omega)).mono ?_
  rw [H2.out]
  rintro e w9 ⟨rfl, b9⟩
  replace bb := chain bb b9
  clear b9
  go_wp2_with fail
  refine (sum_is _ _ (by omega)).mono ?_
  rw [HY.out]
  rintro e w9 ⟨rfl, b9⟩
  replace bb := chain bb b9
  clear b9
  go_wp2_with fail
  refine (hex_is _ _ (by omega)).mono ?_
  rw [HG.out]
  rintro e w9 ⟨rfl, b9⟩
  replace bb := chain bb b9
  clear b9
  go_wp2_with fail
  refine (sum_is _ _ (by rw [Str_size, List.length_replicate]; omega)).mono ?_
  rw [HZ.out]
  rintro e w9 ⟨rfl, b9⟩
  replace bb := chain bb b9
  clear b9
  go_wp2_with fail
  go_ret
  refine ⟨ret_true ?_, bb⟩
  first | (simp; done) | (simp; omega)
theorem shaDigits_law (a0 a1 : ByteArray) (a2 : Int) (w : World) (z0 : a0.size ≤ 140737488351232) (z1 : a1.size ≤ 140737488351232) (w2 : (Lit.int .u8 a2).wf = true) :
    Calls Try.prog 6 #[.string a0, .string a1, .int .u8 a2] w fun e w' => e = .returned (.bool true) ∧ Below w.heap.size w w' := by
  have h2 := bounds_u8 w2
  obtain ⟨n, rfl⟩ : ∃ n : Nat, a2 = (n : Int) := ⟨a2.toNat, by omega⟩
  have hn : n ≤ 255 := by omega
  have hz : ∀ a : ByteArray, ((a.extract 0 200).size : Int) ≤ 200 := fun a => by rw [ByteArray.size_extract]; omega
  have hh : ∀ c : ByteArray, (c.size : Int) ≤ 200 → ((hexB c).size : Int) ≤ 400 := fun c h => by rw [hexB_size]; omega
  have hg : ∀ c, (hexB (sumB c)).size = 64 := fun c => by rw [hexB_size, sumB_size]
  rcases Int.lt_or_le 200 (a0.size : Int) with hs | hs <;> rcases Int.lt_or_le 200 (a1.size : Int) with ht | ht
  · exact shaDigits_bb a0 a1 _ _ _ _ _ _ _ n w hn z0 z1 (Lib.hid rfl) (hz _) hs (Lib.hid rfl) (hz _) ht (Lib.hid rfl) (Lib.hid rfl) (Lib.hid rfl) (Lib.hid rfl) (Lib.hid rfl) (hh _ (hz _)) (hh _ (hz _)) (sumB_size _) (hg _) (sumB_size _)
  · exact shaDigits_bs a0 a1 _ a1 _ _ _ _ _ n w hn z0 z1 (Lib.hid rfl) (hz _) hs ht (Lib.hid rfl) (Lib.hid rfl) (Lib.hid rfl) (Lib.hid rfl) (Lib.hid rfl) (hh _ (hz _)) (hh _ ht) (sumB_size _) (hg _) (sumB_size _)
  · exact shaDigits_sb a0 a1 a0 _ _ _ _ _ _ n w hn z0 z1 hs (Lib.hid rfl) (hz _) ht (Lib.hid rfl) (Lib.hid rfl) (Lib.hid rfl) (Lib.hid rfl) (Lib.hid rfl) (hh _ hs) (hh _ (hz _)) (sumB_size _) (hg _) (sumB_size _)
  · exact shaDigits_ss a0 a1 a0 a1 _ _ _ _ _ n w hn z0 z1 hs ht (Lib.hid rfl) (Lib.hid rfl) (Lib.hid rfl) (Lib.hid rfl) (Lib.hid rfl) (hh _ hs) (hh _ ht) (sumB_size _) (hg _) (sumB_size _)
end Go.Proofs.Ytjicpdkdkakfdaa
