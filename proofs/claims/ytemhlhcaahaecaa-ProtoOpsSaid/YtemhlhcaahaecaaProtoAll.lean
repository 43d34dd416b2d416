/-
  Package proto: the bytes of each request.
-/
import Derived.Test.YtemhlhcaahaecaaProtoFld2
namespace Go.Proofs.Ytemhlhcaahaecaa
open Go.RowKit
set_option linter.unusedVariables false
set_option linter.unusedSimpArgs false
theorem rightB_size {s : ByteArray} (h : rightB s = true) : s.size ≤ 32 := by unfold rightB at h; rw [Bool.and_eq_true, decide_eq_true_eq] at h; omega
theorem hdB_size {s : ByteArray} (h : hdB s = true) : s.size = 29 := by unfold hdB at h; have := of_decide_eq_true h; omega
theorem mayB_in {ri ba ex : Int} (h : mayB ri ba ex = true) : (0 ≤ ri ∧ ri ≤ 65535) ∧ (0 ≤ ba ∧ ba ≤ 4294967295) ∧ (0 ≤ ex ∧ ex ≤ 268435455) := by
  unfold mayB subB maskOk at h
  simp only [Bool.and_eq_true, inB_iff, decide_eq_true_eq] at h
  exact ⟨h.1.1.1, h.2.1, h.2.2⟩
theorem putL_size_eq (n : Int) (size : Nat) (h0 : 0 ≤ n) (h1 : n < 256 ^ size) (hs : 1 ≤ size) (h8 : size ≤ 8) : (Str (putL n (size : Int))).size = size := by
  have ho : putOk n (size : Int) = true := by
    obtain ⟨m, rfl⟩ := Int.eq_ofNat_of_zero_le h0
    exact (putOk_nat m (size : Int)).2 ⟨by omega, by omega, by
      exact Int.ofNat_lt.1 (by rw [Int.natCast_pow]; exact h1)⟩
  rw [Str_size]; unfold putL; rw [if_pos ho, M.be_length]; simp
theorem textL_size_eq (s : ByteArray) (h : s.size ≤ 255) : (textL s).size = 1 + s.size := by
  unfold textL; rw [if_pos h, Str_size]; simp; omega
theorem textS_size2 (ri : Int) (h0 : 0 ≤ ri) (h1 : ri ≤ 65535) : (textS ri).size = pc 16 ri.toNat := by
  have := textS_size ri.toNat (by omega)
  rwa [Int.toNat_of_nonneg h0] at this
theorem pc_le' (k x : Nat) : pc k x ≤ k := pc_le k x
theorem enc_letter (k : Int) (h0 : 97 ≤ k) (h1 : k ≤ 112) : Utf8.encode k = Str [UInt8.ofNat k.toNat] := by
  have := encode_ascii k.toNat (by omega)
  rwa [Int.toNat_of_nonneg (by omega)] at this
theorem yesB_size (b : Bool) : (yesB b).size = 1 := by cases b <;> rfl
def encS (v : Bool) (op id : Int) (f : ByteArray) : ByteArray := if v = true then (⟨#[1]⟩ : ByteArray) ++ Str (putL op 1) ++ Str (putL id 4) ++ f else ⟨#[]⟩
def encE (v : Bool) : Int := if v = true then 0 else 1
theorem encS_size (op id : Int) (f : ByteArray) (a : Bool) (ho : 0 ≤ op ∧ op ≤ 255) (ha : askOk id = true) : (encS true op id f).size = 6 + f.size := by
  have hi := askOk_iff.1 ha
  have e1 := putL_size_eq op 1 ho.1 (by omega) (by omega) (by omega)
  have e2 := putL_size_eq id 4 hi.1 (by omega) (by omega) (by omega)
  simp only [Int.cast_ofNat_Int, Int.natCast_one] at e1 e2
  unfold encS
  rw [if_pos rfl, ByteArray.size_append, ByteArray.size_append, ByteArray.size_append, show (Str (putL op 1)).size = 1 from e1, show (Str (putL id 4)).size = 4 from e2]
  show 1 + 1 + 4 + f.size = _
  omega
theorem enc_post {op id : Int} {x f o : ByteArray} {v a : Bool} {e : Ending} {B : Prop} (ho : Str (putL op 1) = o) (hx : Str (putL id 4) = x)
    (h : e = .returned (if (v && a) = true then .tuple #[.string ((⟨#[1]⟩ : ByteArray) ++ o ++ x ++ f), .int .i64 0] else .tuple #[.string ⟨#[]⟩, .int .i64 1]) ∧ B) :
    e = .returned (.tuple #[.string (encS (v && a) op id f), .int .i64 (encE (v && a))]) ∧ B := by
  obtain ⟨rfl, hb⟩ := h
  subst ho hx
  refine ⟨?_, hb⟩
  cases (v && a) <;> rfl
def wr_Hello (nm : ByteArray) : ByteArray := textL nm
theorem wr_Hello_size (nm : ByteArray) (h : helloR nm = true) : (wr_Hello nm).size = 1 + nm.size := by
  unfold helloR at h
  have r0 := rightB_size h
  have e_nm := textL_size_eq nm (by omega)
  unfold wr_Hello
  omega
theorem enc_Hello (nm : ByteArray) (id : Int) (w : World) (hs : nm.size ≤ 140737488351232) :
    Calls Try.prog 15 #[.int .i64 id, .iface 64 (.agg #[.string nm])] w fun e w' => e = .returned (.tuple #[.string (encS (helloR nm && askOk id) 1 id (wr_Hello nm)), .int .i64 (encE (helloR nm && askOk id))]) ∧ Below w.heap.size w w' := by
  have ho : Str (putL 1 1) = (⟨#[1]⟩ : ByteArray) := by decide +kernel
  cases h : helloR nm
  · exact (encode_Hello nm id _ ⟨#[]⟩ false _ w hs h rfl (Lib.hid rfl) (putL_size _ _ (by omega)) (Lib.hid fun h => by cases h) (by decide)).mono fun e w' h => by
      obtain ⟨rfl, hb⟩ := h
      exact ⟨rfl, hb⟩
  · have hz := wr_Hello_size nm h
    have h' := h
    unfold helloR at h'
    have r0 := rightB_size h
    refine (encode_Hello nm id _ (wr_Hello nm) true _ w hs h rfl (Lib.hid rfl) (putL_size _ _ (by omega)) (Lib.hid fun _ w => ?_) (by omega)).mono fun e w' h => enc_post ho rfl h
    exact fields_Hello nm w _ (Lib.hid rfl) (textL_size2 _)
def wr_Register (nm : ByteArray) (li : Int) : ByteArray := textL nm ++ Str (putL li 2)
theorem wr_Register_size (nm : ByteArray) (li : Int) (h : registerR nm li = true) : (wr_Register nm li).size = 3 + nm.size := by
  unfold registerR at h
  simp only [Bool.and_eq_true] at h
  have r0 := rightB_size h.1
  have r1 := inB_iff.1 h.2
  have e_nm := textL_size_eq nm (by omega)
  have e_li : (Str (putL li 2)).size = 2 := putL_size_eq li 2 (by omega) (by omega) (by omega) (by omega)
  unfold wr_Register
  simp only [ByteArray.size_append]
  omega
theorem enc_Register (nm : ByteArray) (li : Int) (id : Int) (w : World) (hs : nm.size ≤ 140737488351232) :
    Calls Try.prog 15 #[.int .i64 id, .iface 51 (.agg #[.string nm, .int .i64 li])] w fun e w' => e = .returned (.tuple #[.string (encS (registerR nm li && askOk id) 2 id (wr_Register nm li)), .int .i64 (encE (registerR nm li && askOk id))]) ∧ Below w.heap.size w w' := by
  have ho : Str (putL 2 1) = (⟨#[2]⟩ : ByteArray) := by decide +kernel
  cases h : registerR nm li
  · exact (encode_Register nm li id _ ⟨#[]⟩ false _ w hs h rfl (Lib.hid rfl) (putL_size _ _ (by omega)) (Lib.hid fun h => by cases h) (by decide)).mono fun e w' h => by
      obtain ⟨rfl, hb⟩ := h
      exact ⟨rfl, hb⟩
  · have hz := wr_Register_size nm li h
    have h' := h
    unfold registerR at h'
    simp only [Bool.and_eq_true] at h'
    have r0 := rightB_size h'.1
    have r1 := inB_iff.1 h'.2
    refine (encode_Register nm li id _ (wr_Register nm li) true _ w hs h rfl (Lib.hid rfl) (putL_size _ _ (by omega)) (Lib.hid fun _ w => ?_) (by omega)).mono fun e w' h => enc_post ho rfl h
    exact fields_Register nm li w _ (Lib.hid rfl) (textL_size2 _) _ (Lib.hid rfl) (putL_size _ _ (by omega)) (by omega) (by omega)
def wr_Mint (ob : Int) (ri : Int) (ba : Int) (ex : Int) : ByteArray := Str (putL ob 3) ++ textL (textS ri) ++ Str (putL ba 4) ++ Str (putL ex 4)
theorem wr_Mint_size (ob : Int) (ri : Int) (ba : Int) (ex : Int) (h : mintR ob ri ba ex = true) : (wr_Mint ob ri ba ex).size = 12 + pc 16 ri.toNat := by
  unfold mintR at h
  simp only [Bool.and_eq_true] at h
  have r0 := inB_iff.1 h.1
  have r1 := mayB_in h.2
  have e_ob : (Str (putL ob 3)).size = 3 := putL_size_eq ob 3 (by omega) (by omega) (by omega) (by omega)
  have e_r := textS_size2 ri (by omega) (by omega)
  have e_p := pc_le 16 ri.toNat
  have e_l := textL_size_eq (textS ri) (by omega)
  have e_ba : (Str (putL ba 4)).size = 4 := putL_size_eq ba 4 (by omega) (by omega) (by omega) (by omega)
  have e_ex : (Str (putL ex 4)).size = 4 := putL_size_eq ex 4 (by omega) (by omega) (by omega) (by omega)
  unfold wr_Mint
  simp only [ByteArray.size_append]
  omega
theorem enc_Mint (ob : Int) (ri : Int) (ba : Int) (ex : Int) (id : Int) (w : World) :
    Calls Try.prog 15 #[.int .i64 id, .iface 53 (.agg #[.int .i64 ob, .int .i64 ri, .int .i64 ba, .int .i64 ex])] w fun e w' => e = .returned (.tuple #[.string (encS (mintR ob ri ba ex && askOk id) 3 id (wr_Mint ob ri ba ex)), .int .i64 (encE (mintR ob ri ba ex && askOk id))]) ∧ Below w.heap.size w w' := by
  have ho : Str (putL 3 1) = (⟨#[3]⟩ : ByteArray) := by decide +kernel
  cases h : mintR ob ri ba ex
  · exact (encode_Mint ob ri ba ex id _ ⟨#[]⟩ false _ w h rfl (Lib.hid rfl) (putL_size _ _ (by omega)) (Lib.hid fun h => by cases h) (by decide)).mono fun e w' h => by
      obtain ⟨rfl, hb⟩ := h
      exact ⟨rfl, hb⟩
  · have hz := wr_Mint_size ob ri ba ex h
    have h' := h
    unfold mintR at h'
    simp only [Bool.and_eq_true] at h'
    have r0 := inB_iff.1 h'.1
    have r1 := mayB_in h'.2
    have hpc := pc_le 16 ri.toNat
    refine (encode_Mint ob ri ba ex id _ (wr_Mint ob ri ba ex) true _ w h rfl (Lib.hid rfl) (putL_size _ _ (by omega)) (Lib.hid fun _ w => ?_) (by omega)).mono fun e w' h => enc_post ho rfl h
    exact fields_Mint ob ri ba ex w _ (Lib.hid rfl) (putL_size _ _ (by omega)) (by omega) (by omega) _ (Lib.hid fun w => letters_is ri _ w rfl) (by have := textL_size2 (textS ri); omega) _ (Lib.hid rfl) (putL_size _ _ (by omega)) (by omega) (by omega) _ (Lib.hid rfl) (putL_size _ _ (by omega)) (by omega) (by omega)
def wr_Derive (hd : ByteArray) (nm : ByteArray) (ri : Int) (ba : Int) (ex : Int) : ByteArray := hd ++ textL nm ++ textL (textS ri) ++ Str (putL ba 4) ++ Str (putL ex 4)
theorem wr_Derive_size (hd : ByteArray) (nm : ByteArray) (ri : Int) (ba : Int) (ex : Int) (h : deriveR hd nm ri ba ex = true) : (wr_Derive hd nm ri ba ex).size = 39 + nm.size + pc 16 ri.toNat := by
  unfold deriveR at h
  simp only [Bool.and_eq_true] at h
  have r0 := hdB_size h.1.1
  have r1 := rightB_size h.1.2
  have r2 := mayB_in h.2
  have e_nm := textL_size_eq nm (by omega)
  have e_r := textS_size2 ri (by omega) (by omega)
  have e_p := pc_le 16 ri.toNat
  have e_l := textL_size_eq (textS ri) (by omega)
  have e_ba : (Str (putL ba 4)).size = 4 := putL_size_eq ba 4 (by omega) (by omega) (by omega) (by omega)
  have e_ex : (Str (putL ex 4)).size = 4 := putL_size_eq ex 4 (by omega) (by omega) (by omega) (by omega)
  unfold wr_Derive
  simp only [ByteArray.size_append]
  omega
theorem enc_Derive (hd : ByteArray) (nm : ByteArray) (ri : Int) (ba : Int) (ex : Int) (id : Int) (w : World) (hs : nm.size ≤ 140737488351232) :
    Calls Try.prog 15 #[.int .i64 id, .iface 83 (.agg #[.string hd, .string nm, .int .i64 ri, .int .i64 ba, .int .i64 ex])] w fun e w' => e = .returned (.tuple #[.string (encS (deriveR hd nm ri ba ex && askOk id) 4 id (wr_Derive hd nm ri ba ex)), .int .i64 (encE (deriveR hd nm ri ba ex && askOk id))]) ∧ Below w.heap.size w w' := by
  have ho : Str (putL 4 1) = (⟨#[4]⟩ : ByteArray) := by decide +kernel
  cases h : deriveR hd nm ri ba ex
  · exact (encode_Derive hd nm ri ba ex id _ ⟨#[]⟩ false _ w hs h rfl (Lib.hid rfl) (putL_size _ _ (by omega)) (Lib.hid fun h => by cases h) (by decide)).mono fun e w' h => by
      obtain ⟨rfl, hb⟩ := h
      exact ⟨rfl, hb⟩
  · have hz := wr_Derive_size hd nm ri ba ex h
    have h' := h
    unfold deriveR at h'
    simp only [Bool.and_eq_true] at h'
    have r0 := hdB_size h'.1.1
    have r1 := rightB_size h'.1.2
    have r2 := mayB_in h'.2
    have hpc := pc_le 16 ri.toNat
    refine (encode_Derive hd nm ri ba ex id _ (wr_Derive hd nm ri ba ex) true _ w hs h rfl (Lib.hid rfl) (putL_size _ _ (by omega)) (Lib.hid fun _ w => ?_) (by omega)).mono fun e w' h => enc_post ho rfl h
    exact fields_Derive hd nm ri ba ex w (by omega) _ (Lib.hid rfl) (textL_size2 _) _ (Lib.hid fun w => letters_is ri _ w rfl) (by have := textL_size2 (textS ri); omega) _ (Lib.hid rfl) (putL_size _ _ (by omega)) (by omega) (by omega) _ (Lib.hid rfl) (putL_size _ _ (by omega)) (by omega) (by omega)
def wr_Renew (hd : ByteArray) (ex : Int) : ByteArray := hd ++ Str (putL ex 4)
theorem wr_Renew_size (hd : ByteArray) (ex : Int) (h : renewR hd ex = true) : (wr_Renew hd ex).size = 33 := by
  unfold renewR at h
  simp only [Bool.and_eq_true] at h
  have r0 := hdB_size h.1
  have r1 := inB_iff.1 h.2
  have e_ex : (Str (putL ex 4)).size = 4 := putL_size_eq ex 4 (by omega) (by omega) (by omega) (by omega)
  unfold wr_Renew
  simp only [ByteArray.size_append]
  omega
theorem enc_Renew (hd : ByteArray) (ex : Int) (id : Int) (w : World) :
    Calls Try.prog 15 #[.int .i64 id, .iface 62 (.agg #[.string hd, .int .i64 ex])] w fun e w' => e = .returned (.tuple #[.string (encS (renewR hd ex && askOk id) 5 id (wr_Renew hd ex)), .int .i64 (encE (renewR hd ex && askOk id))]) ∧ Below w.heap.size w w' := by
  have ho : Str (putL 5 1) = (⟨#[5]⟩ : ByteArray) := by decide +kernel
  cases h : renewR hd ex
  · exact (encode_Renew hd ex id _ ⟨#[]⟩ false _ w h rfl (Lib.hid rfl) (putL_size _ _ (by omega)) (Lib.hid fun h => by cases h) (by decide)).mono fun e w' h => by
      obtain ⟨rfl, hb⟩ := h
      exact ⟨rfl, hb⟩
  · have hz := wr_Renew_size hd ex h
    have h' := h
    unfold renewR at h'
    simp only [Bool.and_eq_true] at h'
    have r0 := hdB_size h'.1
    have r1 := inB_iff.1 h'.2
    refine (encode_Renew hd ex id _ (wr_Renew hd ex) true _ w h rfl (Lib.hid rfl) (putL_size _ _ (by omega)) (Lib.hid fun _ w => ?_) (by omega)).mono fun e w' h => enc_post ho rfl h
    exact fields_Renew hd ex w (by omega) _ (Lib.hid rfl) (putL_size _ _ (by omega)) (by omega) (by omega)
def wr_Validate (hd : ByteArray) : ByteArray := hd
theorem wr_Validate_size (hd : ByteArray) (h : validateR hd = true) : (wr_Validate hd).size = 29 := by
  unfold validateR at h
  have r0 := hdB_size h
  unfold wr_Validate
  omega
theorem enc_Validate (hd : ByteArray) (id : Int) (w : World) :
    Calls Try.prog 15 #[.int .i64 id, .iface 55 (.agg #[.string hd])] w fun e w' => e = .returned (.tuple #[.string (encS (validateR hd && askOk id) 6 id (wr_Validate hd)), .int .i64 (encE (validateR hd && askOk id))]) ∧ Below w.heap.size w w' := by
  have ho : Str (putL 6 1) = (⟨#[6]⟩ : ByteArray) := by decide +kernel
  cases h : validateR hd
  · exact (encode_Validate hd id _ ⟨#[]⟩ false _ w h rfl (Lib.hid rfl) (putL_size _ _ (by omega)) (Lib.hid fun h => by cases h) (by decide)).mono fun e w' h => by
      obtain ⟨rfl, hb⟩ := h
      exact ⟨rfl, hb⟩
  · have hz := wr_Validate_size hd h
    have h' := h
    unfold validateR at h'
    have r0 := hdB_size h
    refine (encode_Validate hd id _ (wr_Validate hd) true _ w h rfl (Lib.hid rfl) (putL_size _ _ (by omega)) (Lib.hid fun _ w => ?_) (by omega)).mono fun e w' h => enc_post ho rfl h
    exact fields_Validate hd w (by omega)
def wr_Invoke (hd : ByteArray) (rt : Int) : ByteArray := hd ++ textL (Utf8.encode rt)
theorem wr_Invoke_size (hd : ByteArray) (rt : Int) (h : invokeR hd rt = true) : (wr_Invoke hd rt).size = 31 := by
  unfold invokeR at h
  simp only [Bool.and_eq_true] at h
  have r0 := hdB_size h.1
  have r1 := inB_iff.1 h.2
  have e_c : (Utf8.encode rt).size = 1 := by rw [enc_letter rt (by omega) (by omega), Str_size]; rfl
  have e_l := textL_size_eq (Utf8.encode rt) (by omega)
  unfold wr_Invoke
  simp only [ByteArray.size_append]
  omega
theorem enc_Invoke (hd : ByteArray) (rt : Int) (id : Int) (w : World) :
    Calls Try.prog 15 #[.int .i64 id, .iface 58 (.agg #[.string hd, .int .i32 rt])] w fun e w' => e = .returned (.tuple #[.string (encS (invokeR hd rt && askOk id) 7 id (wr_Invoke hd rt)), .int .i64 (encE (invokeR hd rt && askOk id))]) ∧ Below w.heap.size w w' := by
  have ho : Str (putL 7 1) = (⟨#[7]⟩ : ByteArray) := by decide +kernel
  cases h : invokeR hd rt
  · exact (encode_Invoke hd rt id _ ⟨#[]⟩ false _ w h rfl (Lib.hid rfl) (putL_size _ _ (by omega)) (Lib.hid fun h => by cases h) (by decide)).mono fun e w' h => by
      obtain ⟨rfl, hb⟩ := h
      exact ⟨rfl, hb⟩
  · have hz := wr_Invoke_size hd rt h
    have h' := h
    unfold invokeR at h'
    simp only [Bool.and_eq_true] at h'
    have r0 := hdB_size h'.1
    have r1 := inB_iff.1 h'.2
    refine (encode_Invoke hd rt id _ (wr_Invoke hd rt) true _ w h rfl (Lib.hid rfl) (putL_size _ _ (by omega)) (Lib.hid fun _ w => ?_) (by omega)).mono fun e w' h => enc_post ho rfl h
    exact fields_Invoke hd _ rt w (by omega) _ rfl (Lib.hid rfl) (by rw [textL_size_eq _ (by rw [enc_letter rt (by omega) (by omega), Str_size]; simp), enc_letter rt (by omega) (by omega), Str_size]; simp)
def wr_Revoke (hd : ByteArray) (sf : Bool) : ByteArray := hd ++ yesB sf
theorem wr_Revoke_size (hd : ByteArray) (sf : Bool) (h : revokeR hd = true) : (wr_Revoke hd sf).size = 30 := by
  unfold revokeR at h
  have r0 := hdB_size h
  have e_y := yesB_size sf
  unfold wr_Revoke
  simp only [ByteArray.size_append]
  omega
theorem enc_Revoke (hd : ByteArray) (sf : Bool) (id : Int) (w : World) :
    Calls Try.prog 15 #[.int .i64 id, .iface 85 (.agg #[.string hd, .bool sf])] w fun e w' => e = .returned (.tuple #[.string (encS (revokeR hd && askOk id) 8 id (wr_Revoke hd sf)), .int .i64 (encE (revokeR hd && askOk id))]) ∧ Below w.heap.size w w' := by
  have ho : Str (putL 8 1) = (⟨#[8]⟩ : ByteArray) := by decide +kernel
  cases h : revokeR hd
  · exact (encode_Revoke hd sf id _ ⟨#[]⟩ false _ w h rfl (Lib.hid rfl) (putL_size _ _ (by omega)) (Lib.hid fun h => by cases h) (by decide)).mono fun e w' h => by
      obtain ⟨rfl, hb⟩ := h
      exact ⟨rfl, hb⟩
  · have hz := wr_Revoke_size hd sf h
    have h' := h
    unfold revokeR at h'
    have r0 := hdB_size h
    refine (encode_Revoke hd sf id _ (wr_Revoke hd sf) true _ w h rfl (Lib.hid rfl) (putL_size _ _ (by omega)) (Lib.hid fun _ w => ?_) (by omega)).mono fun e w' h => enc_post ho rfl h
    exact fields_Revoke hd sf w (by omega) _ (Lib.hid rfl) (by rw [yesB_size]; omega)
def wr_Delete (hd : ByteArray) : ByteArray := hd
theorem wr_Delete_size (hd : ByteArray) (h : deleteR hd = true) : (wr_Delete hd).size = 29 := by
  unfold deleteR at h
  have r0 := hdB_size h
  unfold wr_Delete
  omega
theorem enc_Delete (hd : ByteArray) (id : Int) (w : World) :
    Calls Try.prog 15 #[.int .i64 id, .iface 86 (.agg #[.string hd])] w fun e w' => e = .returned (.tuple #[.string (encS (deleteR hd && askOk id) 9 id (wr_Delete hd)), .int .i64 (encE (deleteR hd && askOk id))]) ∧ Below w.heap.size w w' := by
  have ho : Str (putL 9 1) = (⟨#[9]⟩ : ByteArray) := by decide +kernel
  cases h : deleteR hd
  · exact (encode_Delete hd id _ ⟨#[]⟩ false _ w h rfl (Lib.hid rfl) (putL_size _ _ (by omega)) (Lib.hid fun h => by cases h) (by decide)).mono fun e w' h => by
      obtain ⟨rfl, hb⟩ := h
      exact ⟨rfl, hb⟩
  · have hz := wr_Delete_size hd h
    have h' := h
    unfold deleteR at h'
    have r0 := hdB_size h
    refine (encode_Delete hd id _ (wr_Delete hd) true _ w h rfl (Lib.hid rfl) (putL_size _ _ (by omega)) (Lib.hid fun _ w => ?_) (by omega)).mono fun e w' h => enc_post ho rfl h
    exact fields_Delete hd w (by omega)
def wr_Move (hd : ByteArray) (to : ByteArray) : ByteArray := hd ++ to
theorem wr_Move_size (hd : ByteArray) (to : ByteArray) (h : moveR hd to = true) : (wr_Move hd to).size = 58 := by
  unfold moveR at h
  simp only [Bool.and_eq_true] at h
  have r0 := hdB_size h.1
  have r1 := hdB_size h.2
  unfold wr_Move
  simp only [ByteArray.size_append]
  omega
theorem enc_Move (hd : ByteArray) (to : ByteArray) (id : Int) (w : World) :
    Calls Try.prog 15 #[.int .i64 id, .iface 88 (.agg #[.string hd, .string to])] w fun e w' => e = .returned (.tuple #[.string (encS (moveR hd to && askOk id) 10 id (wr_Move hd to)), .int .i64 (encE (moveR hd to && askOk id))]) ∧ Below w.heap.size w w' := by
  have ho : Str (putL 10 1) = (⟨#[10]⟩ : ByteArray) := by decide +kernel
  cases h : moveR hd to
  · exact (encode_Move hd to id _ ⟨#[]⟩ false _ w h rfl (Lib.hid rfl) (putL_size _ _ (by omega)) (Lib.hid fun h => by cases h) (by decide)).mono fun e w' h => by
      obtain ⟨rfl, hb⟩ := h
      exact ⟨rfl, hb⟩
  · have hz := wr_Move_size hd to h
    have h' := h
    unfold moveR at h'
    simp only [Bool.and_eq_true] at h'
    have r0 := hdB_size h'.1
    have r1 := hdB_size h'.2
    refine (encode_Move hd to id _ (wr_Move hd to) true _ w h rfl (Lib.hid rfl) (putL_size _ _ (by omega)) (Lib.hid fun _ w => ?_) (by omega)).mono fun e w' h => enc_post ho rfl h
    exact fields_Move hd to w (by omega) (by omega)
def wr_List (hd : ByteArray) (fr : Int) (mo : Int) : ByteArray := hd ++ Str (putL fr 3) ++ Str (putL mo 1)
theorem wr_List_size (hd : ByteArray) (fr : Int) (mo : Int) (h : listR hd fr mo = true) : (wr_List hd fr mo).size = 33 := by
  unfold listR at h
  simp only [Bool.and_eq_true] at h
  have r0 := hdB_size h.1.1
  have r1 := inB_iff.1 h.1.2
  have r2 := inB_iff.1 h.2
  have e_fr : (Str (putL fr 3)).size = 3 := putL_size_eq fr 3 (by omega) (by omega) (by omega) (by omega)
  have e_mo : (Str (putL mo 1)).size = 1 := putL_size_eq mo 1 (by omega) (by omega) (by omega) (by omega)
  unfold wr_List
  simp only [ByteArray.size_append]
  omega
theorem enc_List (hd : ByteArray) (fr : Int) (mo : Int) (id : Int) (w : World) :
    Calls Try.prog 15 #[.int .i64 id, .iface 60 (.agg #[.string hd, .int .i64 fr, .int .i64 mo])] w fun e w' => e = .returned (.tuple #[.string (encS (listR hd fr mo && askOk id) 11 id (wr_List hd fr mo)), .int .i64 (encE (listR hd fr mo && askOk id))]) ∧ Below w.heap.size w w' := by
  have ho : Str (putL 11 1) = (⟨#[11]⟩ : ByteArray) := by decide +kernel
  cases h : listR hd fr mo
  · exact (encode_List hd fr mo id _ ⟨#[]⟩ false _ w h rfl (Lib.hid rfl) (putL_size _ _ (by omega)) (Lib.hid fun h => by cases h) (by decide)).mono fun e w' h => by
      obtain ⟨rfl, hb⟩ := h
      exact ⟨rfl, hb⟩
  · have hz := wr_List_size hd fr mo h
    have h' := h
    unfold listR at h'
    simp only [Bool.and_eq_true] at h'
    have r0 := hdB_size h'.1.1
    have r1 := inB_iff.1 h'.1.2
    have r2 := inB_iff.1 h'.2
    refine (encode_List hd fr mo id _ (wr_List hd fr mo) true _ w h rfl (Lib.hid rfl) (putL_size _ _ (by omega)) (Lib.hid fun _ w => ?_) (by omega)).mono fun e w' h => enc_post ho rfl h
    exact fields_List hd fr mo w (by omega) _ (Lib.hid rfl) (putL_size _ _ (by omega)) (by omega) (by omega) _ (Lib.hid rfl) (putL_size _ _ (by omega)) (by omega) (by omega)
def wr_Quota  : ByteArray := ⟨#[]⟩
theorem wr_Quota_size  (h : quotaR  = true) : (wr_Quota ).size = 0 := by
  unfold wr_Quota
  rfl
theorem enc_Quota  (id : Int) (w : World) :
    Calls Try.prog 15 #[.int .i64 id, .iface 68 (.agg #[])] w fun e w' => e = .returned (.tuple #[.string (encS (quotaR  && askOk id) 12 id (wr_Quota )), .int .i64 (encE (quotaR  && askOk id))]) ∧ Below w.heap.size w w' := by
  have ho : Str (putL 12 1) = (⟨#[12]⟩ : ByteArray) := by decide +kernel
  cases h : quotaR 
  · exact (encode_Quota  id _ ⟨#[]⟩ false _ w h rfl (Lib.hid rfl) (putL_size _ _ (by omega)) (Lib.hid fun h => by cases h) (by decide)).mono fun e w' h => by
      obtain ⟨rfl, hb⟩ := h
      exact ⟨rfl, hb⟩
  · have hz := wr_Quota_size  h
    have h' := h
    refine (encode_Quota  id _ (wr_Quota ) true _ w h rfl (Lib.hid rfl) (putL_size _ _ (by omega)) (Lib.hid fun _ w => ?_) (by omega)).mono fun e w' h => enc_post ho rfl h
    exact quota_fields w
def wr_Rotate  : ByteArray := ⟨#[]⟩
theorem wr_Rotate_size  (h : rotateR  = true) : (wr_Rotate ).size = 0 := by
  unfold wr_Rotate
  rfl
theorem enc_Rotate  (id : Int) (w : World) :
    Calls Try.prog 15 #[.int .i64 id, .iface 89 (.agg #[])] w fun e w' => e = .returned (.tuple #[.string (encS (rotateR  && askOk id) 13 id (wr_Rotate )), .int .i64 (encE (rotateR  && askOk id))]) ∧ Below w.heap.size w w' := by
  have ho : Str (putL 13 1) = (⟨#[13]⟩ : ByteArray) := by decide +kernel
  cases h : rotateR 
  · exact (encode_Rotate  id _ ⟨#[]⟩ false _ w h rfl (Lib.hid rfl) (putL_size _ _ (by omega)) (Lib.hid fun h => by cases h) (by decide)).mono fun e w' h => by
      obtain ⟨rfl, hb⟩ := h
      exact ⟨rfl, hb⟩
  · have hz := wr_Rotate_size  h
    have h' := h
    refine (encode_Rotate  id _ (wr_Rotate ) true _ w h rfl (Lib.hid rfl) (putL_size _ _ (by omega)) (Lib.hid fun _ w => ?_) (by omega)).mono fun e w' h => enc_post ho rfl h
    exact fields_Rotate  w 
end Go.Proofs.Ytemhlhcaahaecaa
