/-
  Package proto: what is written is read; what is read is written as it stood.
-/
import Derived.Test.YtemhlhcaahaecaaProtoReq
import Derived.Test.YtemhlhcaahaecaaReplyFacts
namespace Go.Proofs.Ytemhlhcaahaecaa
open Go.RowKit
set_option linter.unusedVariables false
set_option linter.unusedSimpArgs false
theorem hd_read {s : ByteArray} (r : ByteArray) (h : s.size = 29) : hdS (s ++ r) = s ∧ hdR (s ++ r) = r := by
  have e : min 29 (s ++ r).size = s.size := by rw [ByteArray.size_append, h]; omega
  unfold hdS hdR
  rw [e]
  refine ⟨?_, ?_⟩
  · apply eq_of_data
    rw [extract_list, append_list]
    simp
  · apply eq_of_data
    rw [extract_list, append_list, ByteArray.size_append]
    simp
    exact List.take_of_length_le (by simp)
theorem empty_append (s : ByteArray) : (⟨#[]⟩ : ByteArray) ++ s = s := by
  apply eq_of_data
  rw [append_list]
  rfl
theorem ltr_read (r : Int) (h0 : 97 ≤ r) (h1 : r ≤ 112) : ltr (Utf8.encode r) = r := by
  rw [enc_letter r h0 h1]
  have hs : (Str [UInt8.ofNat r.toNat]).size = 1 := by rw [Str_size]; rfl
  unfold ltr
  rw [if_neg (by omega)]
  have hb : ((Str [UInt8.ofNat r.toNat])[0]'(by omega)).toNat = r.toNat := by
    show (UInt8.ofNat r.toNat).toNat = _
    rw [UInt8.toNat_ofNat']; omega
  have := decode_ascii (Str [UInt8.ofNat r.toNat]) 0 (by omega) (by omega)
  rw [this]
  show (((Str [UInt8.ofNat r.toNat])[0]'(by omega)).toNat : Int) = r
  omega
theorem yes_read (b : Bool) (r : ByteArray) : (takeN (yesB b ++ r) 1 == 1) = b ∧ takeR (yesB b ++ r) 1 = r := by
  cases b
  · have e : yesB false = Str (putL 0 1) := by decide +kernel
    have := pt_n (n := 0) (k := 1) r (by decide) (by decide)
    rw [e, this.1, this.2]; exact ⟨rfl, rfl⟩
  · have e : yesB true = Str (putL 1 1) := by decide +kernel
    have := pt_n (n := 1) (k := 1) r (by decide) (by decide)
    rw [e, this.1, this.2]; exact ⟨rfl, rfl⟩
theorem let_read (ri : Int) (r : ByteArray) (h0 : 0 ≤ ri) (h1 : ri ≤ 65535) : parN (ttS (textL (textS ri) ++ r)) = ri ∧ ttR (textL (textS ri) ++ r) = r := by
  have hz := textS_size2 ri h0 h1
  have hp := pc_le 16 ri.toNat
  have := tt_text (textS ri) r (by omega)
  rw [this.1, this.2.1]
  have h2 := (textS_par ri.toNat (by omega)).1
  rw [Int.toNat_of_nonneg h0] at h2
  exact ⟨h2, rfl⟩
theorem head_read (op id : Int) (f more : ByteArray) (ho : 0 ≤ op ∧ op ≤ 255) (ha : askOk id = true) :
    takeN (takeR (encS true op id f ++ more) 1) 1 = op ∧ takeN (takeR (takeR (encS true op id f ++ more) 1) 1) 4 = id ∧ takeR (takeR (takeR (encS true op id f ++ more) 1) 1) 4 = f ++ more := by
  have hi := askOk_iff.1 ha
  have e0 : (⟨#[1]⟩ : ByteArray) = Str (putL 1 1) := by decide +kernel
  have q0 := fun rest => pt_n (n := 1) (k := 1) rest (by decide) (by decide)
  have q1 := fun rest => pt_n (n := op) (k := 1) rest ho.1 (putOk_of ho.1 (by decide) (by decide) (by show _ < 256; omega))
  have q2 := fun rest => pt_n (n := id) (k := 4) rest hi.1 (putOk_of hi.1 (by decide) (by decide) (by show _ < 4294967296; omega))
  have e : encS true op id f ++ more = Str (putL 1 1) ++ (Str (putL op 1) ++ (Str (putL id 4) ++ (f ++ more))) := by
    unfold encS; rw [if_pos rfl, e0]; simp only [ByteArray.append_assoc]
  rw [e, (q0 _).2, (q1 _).2, (q2 _).2]
  exact ⟨(q1 _).1, (q2 _).1, rfl⟩
theorem more_eq (a m : ByteArray) : (a.toList == (a ++ m).toList) = (m.toList == (⟨#[]⟩ : ByteArray).toList) := by
  rw [list_beq, list_beq]
  apply decide_eq_decide.2
  constructor
  · intro h
    have := congrArg ByteArray.size h
    rw [ByteArray.size_append] at this
    have h0 : m.size = 0 := by omega
    apply eq_of_data
    have := size_list m
    rw [h0] at this
    exact List.length_eq_zero_iff.1 this
  · rintro rfl
    rw [append_empty]
theorem right_of (x y : Value) (v : Bool) (w : World) (P : Hid (∀ w, Calls Try.prog 30 #[x] w fun e w' => e = .returned (.tuple #[y, .bool v]) ∧ Below w.heap.size w w')) :
    Calls Try.prog 17 #[x] w fun e w' => e = .returned (.bool v) ∧ Below w.heap.size w w' := by
  go_enter Try.func17, Try.ntmps17
  go_wp2_with fail
  refine (P.out _).mono ?_
  rintro e w1 ⟨rfl, b1⟩
  go_wp2_with fail
  go_ret
  exact ⟨rfl, b1⟩
theorem enc_if {op id : Int} {f : ByteArray} {v : Value} {ok : Bool} {w : World} (h : Calls Try.prog 15 #[.int .i64 id, v] w fun e w' => e = .returned (.tuple #[.string (encS ok op id f), .int .i64 (encE ok)]) ∧ Below w.heap.size w w') :
    Calls Try.prog 15 #[.int .i64 id, v] w fun e w' => e = .returned (.tuple #[.string (encS ok op id f), .int .i64 (if ok = true then 0 else 1)]) ∧ Below w.heap.size w w' := h
/-- What is told of whatever bytes. -/
def DecAny (b : ByteArray) : Prop := ∃ (n : Int) (x : Value) (f : Int) (t : ByteArray) (g : Int) (rt : Bool),
  (∀ w, Calls Try.prog 16 #[.string b] w fun e w' => e = .returned (.tuple #[.int .i64 n, x, .int .i64 f]) ∧ Below w.heap.size w w') ∧
  (∀ w, Calls Try.prog 15 #[.int .i64 n, x] w fun e w' => e = .returned (.tuple #[.string t, .int .i64 g]) ∧ Below w.heap.size w w') ∧
  (∀ w, Calls Try.prog 17 #[x] w fun e w' => e = .returned (.bool rt) ∧ Below w.heap.size w w') ∧
  (f = 2 ∨ (f = 0 ∧ g = 0 ∧ t = b ∧ rt = true))
theorem dec_of {b : ByteArray} {op id : Int} {f : ByteArray} {v y : Value} {ok rt : Bool}
    (D : ∀ w, Calls Try.prog 16 #[.string b] w fun e w' => e = .returned (decR (ok && ((encS ok op id f).toList == b.toList)) id v) ∧ Below w.heap.size w w')
    (E : ∀ w, Calls Try.prog 15 #[.int .i64 id, v] w fun e w' => e = .returned (.tuple #[.string (encS ok op id f), .int .i64 (encE ok)]) ∧ Below w.heap.size w w')
    (P : ∀ w, Calls Try.prog 30 #[v] w fun e w' => e = .returned (.tuple #[y, .bool rt]) ∧ Below w.heap.size w w') (hr : ok = true → rt = true) : DecAny b := by
  cases h : (ok && ((encS ok op id f).toList == b.toList))
  · rw [h] at D
    exact ⟨0, .nilIface, 2, _, _, false, D, fun w => im_encode _ 0 w (Lib.hid stray_n), fun w => im_right _ w (Lib.hid stray_n), .inl rfl⟩
  · rw [h] at D
    rw [Bool.and_eq_true] at h
    refine ⟨id, v, 0, _, _, rt, D, E, fun w => right_of v y rt w (Lib.hid P), .inr ⟨rfl, ?_, ?_, hr h.1⟩⟩
    · rw [h.1]; rfl
    · exact list_inj.1 (by simpa using h.2)
set_option maxRecDepth 20000 in
theorem back_Hello (nm : ByteArray) (id : Int) (more : ByteArray) (hm : more.size ≤ 140737488351232) (hs : nm.size ≤ 140737488351232) (h : helloR nm = true) (ha : askOk id = true) (w : World) :
    Calls Try.prog 16 #[.string (encS true 1 id (wr_Hello nm) ++ more)] w fun e w' => e = .returned (decR (more.toList == (⟨#[]⟩ : ByteArray).toList) id (.iface 64 (.agg #[.string nm]))) ∧ Below w.heap.size w w' := by
  have hwz := wr_Hello_size nm h
  have E := fun w => enc_Hello nm id w hs
  rw [h, ha] at E
  unfold helloR at h
  have r0 := rightB_size h
  have hh := head_read 1 id (wr_Hello nm) more (by decide) ha
  have hz : (wr_Hello nm ++ more).size ≤ 9223372036854775807 := by rw [ByteArray.size_append]; omega
  have es : wr_Hello nm ++ more = (textL nm ++ more) := rfl
  rw [es] at hz hh
  have p0 := tt_text nm more (by omega)
  have D := decode_walk (encS true 1 id (wr_Hello nm) ++ more) _ _ _ (encS true 1 id (wr_Hello nm)) _ _ _ (.iface 64 (.agg #[.string nm])) true w (Lib.hid rfl) (Lib.hid rfl) (Lib.hid hh.1) (Lib.hid rfl) (Lib.hid hh.2.1) (Lib.hid hh.2.2)
    (Lib.hid fun g w hrd => by
      have := request_Hello g _ _ nm w hrd hz (Lib.hid p0.1) (Lib.hid p0.2.1)
      exact this) (Lib.hid fun w => enc_if (E w))
  rw [Bool.true_and, more_eq] at D
  exact D
set_option maxRecDepth 20000 in
theorem any_Hello (b : ByteArray) (hb : b.size ≤ 140737488351232) (hk : takeN (takeR b 1) 1 = 1) : DecAny b := by
  have hz0 : (takeR (takeR (takeR b 1) 1) 4).size ≤ 140737488351232 := Nat.le_trans (takeR_size2 _ _) (Nat.le_trans (takeR_size2 _ _) (Nat.le_trans (takeR_size2 _ _) hb))
  have hz1 : (ttR (takeR (takeR (takeR b 1) 1) 4)).size ≤ 140737488351232 := Nat.le_trans (ttR_size2 _) hz0
  have E := fun w => enc_Hello (ttS (takeR (takeR (takeR b 1) 1) 4)) (takeN (takeR (takeR b 1) 1) 4) w (Nat.le_trans (ttS_size2 _) hz0)
  have P := fun w => proper_Hello (ttS (takeR (takeR (takeR b 1) 1) 4)) _ w (Nat.le_trans (ttS_size2 _) hz0) rfl
  refine dec_of (fun w => decode_walk b _ _ _ _ _ _ _ _ _ w (Lib.hid rfl) (Lib.hid rfl) (Lib.hid hk) (Lib.hid rfl) (Lib.hid rfl) (Lib.hid rfl) (Lib.hid fun g w hrd => request_Hello g _ _ _ w hrd (by omega) (Lib.hid rfl) (Lib.hid rfl)) (Lib.hid fun w => enc_if (E w))) E P fun h => ?_
  rw [Bool.and_eq_true] at h
  exact h.1
set_option maxRecDepth 20000 in
theorem back_Register (nm : ByteArray) (li : Int) (id : Int) (more : ByteArray) (hm : more.size ≤ 140737488351232) (hs : nm.size ≤ 140737488351232) (h : registerR nm li = true) (ha : askOk id = true) (w : World) :
    Calls Try.prog 16 #[.string (encS true 2 id (wr_Register nm li) ++ more)] w fun e w' => e = .returned (decR (more.toList == (⟨#[]⟩ : ByteArray).toList) id (.iface 51 (.agg #[.string nm, .int .i64 li]))) ∧ Below w.heap.size w w' := by
  have hwz := wr_Register_size nm li h
  have E := fun w => enc_Register nm li id w hs
  rw [h, ha] at E
  unfold registerR at h
  simp only [Bool.and_eq_true] at h
  have r0 := rightB_size h.1
  have r1 := inB_iff.1 h.2
  have hh := head_read 2 id (wr_Register nm li) more (by decide) ha
  have hz : (wr_Register nm li ++ more).size ≤ 9223372036854775807 := by rw [ByteArray.size_append]; omega
  have es : wr_Register nm li ++ more = (textL nm ++ (Str (putL li 2) ++ more)) := by unfold wr_Register; simp only [ByteArray.append_assoc]
  rw [es] at hz hh
  have p0 := tt_text nm (Str (putL li 2) ++ more) (by omega)
  have p1 := pt_n (n := li) (k := 2) more (by omega) (putOk_of (by omega) (by decide) (by decide) (by show _ < 65536; omega))
  have D := decode_walk (encS true 2 id (wr_Register nm li) ++ more) _ _ _ (encS true 2 id (wr_Register nm li)) _ _ _ (.iface 51 (.agg #[.string nm, .int .i64 li])) true w (Lib.hid rfl) (Lib.hid rfl) (Lib.hid hh.1) (Lib.hid rfl) (Lib.hid hh.2.1) (Lib.hid hh.2.2)
    (Lib.hid fun g w hrd => by
      have := request_Register g _ _ _ nm li w hrd hz (Lib.hid p0.1) (Lib.hid p0.2.1) (Lib.hid p1.1) (Lib.hid p1.2)
      exact this) (Lib.hid fun w => enc_if (E w))
  rw [Bool.true_and, more_eq] at D
  exact D
set_option maxRecDepth 20000 in
theorem any_Register (b : ByteArray) (hb : b.size ≤ 140737488351232) (hk : takeN (takeR b 1) 1 = 2) : DecAny b := by
  have hz0 : (takeR (takeR (takeR b 1) 1) 4).size ≤ 140737488351232 := Nat.le_trans (takeR_size2 _ _) (Nat.le_trans (takeR_size2 _ _) (Nat.le_trans (takeR_size2 _ _) hb))
  have hz1 : (ttR (takeR (takeR (takeR b 1) 1) 4)).size ≤ 140737488351232 := Nat.le_trans (ttR_size2 _) hz0
  have hz2 : (takeR (ttR (takeR (takeR (takeR b 1) 1) 4)) 2).size ≤ 140737488351232 := Nat.le_trans (takeR_size2 _ _) hz1
  have E := fun w => enc_Register (ttS (takeR (takeR (takeR b 1) 1) 4)) (takeN (ttR (takeR (takeR (takeR b 1) 1) 4)) 2) (takeN (takeR (takeR b 1) 1) 4) w (Nat.le_trans (ttS_size2 _) hz0)
  have P := fun w => proper_Register (ttS (takeR (takeR (takeR b 1) 1) 4)) (takeN (ttR (takeR (takeR (takeR b 1) 1) 4)) 2) _ w (Nat.le_trans (ttS_size2 _) hz0) rfl
  refine dec_of (fun w => decode_walk b _ _ _ _ _ _ _ _ _ w (Lib.hid rfl) (Lib.hid rfl) (Lib.hid hk) (Lib.hid rfl) (Lib.hid rfl) (Lib.hid rfl) (Lib.hid fun g w hrd => request_Register g _ _ _ _ _ w hrd (by omega) (Lib.hid rfl) (Lib.hid rfl) (Lib.hid rfl) (Lib.hid rfl)) (Lib.hid fun w => enc_if (E w))) E P fun h => ?_
  rw [Bool.and_eq_true] at h
  exact h.1
set_option maxRecDepth 20000 in
theorem back_Mint (ob : Int) (ri : Int) (ba : Int) (ex : Int) (id : Int) (more : ByteArray) (hm : more.size ≤ 140737488351232) (h : mintR ob ri ba ex = true) (ha : askOk id = true) (w : World) :
    Calls Try.prog 16 #[.string (encS true 3 id (wr_Mint ob ri ba ex) ++ more)] w fun e w' => e = .returned (decR (more.toList == (⟨#[]⟩ : ByteArray).toList) id (.iface 53 (.agg #[.int .i64 ob, .int .i64 ri, .int .i64 ba, .int .i64 ex]))) ∧ Below w.heap.size w w' := by
  have hwz := wr_Mint_size ob ri ba ex h
  have hpc := pc_le 16 ri.toNat
  have E := fun w => enc_Mint ob ri ba ex id w
  rw [h, ha] at E
  unfold mintR at h
  simp only [Bool.and_eq_true] at h
  have r0 := inB_iff.1 h.1
  have r1 := mayB_in h.2
  have hh := head_read 3 id (wr_Mint ob ri ba ex) more (by decide) ha
  have hz : (wr_Mint ob ri ba ex ++ more).size ≤ 9223372036854775807 := by rw [ByteArray.size_append]; omega
  have es : wr_Mint ob ri ba ex ++ more = (Str (putL ob 3) ++ (textL (textS ri) ++ (Str (putL ba 4) ++ (Str (putL ex 4) ++ more)))) := by unfold wr_Mint; simp only [ByteArray.append_assoc]
  rw [es] at hz hh
  have p0 := pt_n (n := ob) (k := 3) (textL (textS ri) ++ (Str (putL ba 4) ++ (Str (putL ex 4) ++ more))) (by omega) (putOk_of (by omega) (by decide) (by decide) (by show _ < 16777216; omega))
  have p1 := let_read ri (Str (putL ba 4) ++ (Str (putL ex 4) ++ more)) (by omega) (by omega)
  have p2 := pt_n (n := ba) (k := 4) (Str (putL ex 4) ++ more) (by omega) (putOk_of (by omega) (by decide) (by decide) (by show _ < 4294967296; omega))
  have p3 := pt_n (n := ex) (k := 4) more (by omega) (putOk_of (by omega) (by decide) (by decide) (by show _ < 4294967296; omega))
  have D := decode_walk (encS true 3 id (wr_Mint ob ri ba ex) ++ more) _ _ _ (encS true 3 id (wr_Mint ob ri ba ex)) _ _ _ (.iface 53 (.agg #[.int .i64 ob, .int .i64 ri, .int .i64 ba, .int .i64 ex])) true w (Lib.hid rfl) (Lib.hid rfl) (Lib.hid hh.1) (Lib.hid rfl) (Lib.hid hh.2.1) (Lib.hid hh.2.2)
    (Lib.hid fun g w hrd => by
      have := request_Mint g _ _ _ _ _ ob ri ba ex w hrd hz (Lib.hid p0.1) (Lib.hid p0.2) (Lib.hid p1.1) (Lib.hid p1.2) (Lib.hid p2.1) (Lib.hid p2.2) (Lib.hid p3.1) (Lib.hid p3.2)
      exact this) (Lib.hid fun w => enc_if (E w))
  rw [Bool.true_and, more_eq] at D
  exact D
set_option maxRecDepth 20000 in
theorem any_Mint (b : ByteArray) (hb : b.size ≤ 140737488351232) (hk : takeN (takeR b 1) 1 = 3) : DecAny b := by
  have hz0 : (takeR (takeR (takeR b 1) 1) 4).size ≤ 140737488351232 := Nat.le_trans (takeR_size2 _ _) (Nat.le_trans (takeR_size2 _ _) (Nat.le_trans (takeR_size2 _ _) hb))
  have hz1 : (takeR (takeR (takeR (takeR b 1) 1) 4) 3).size ≤ 140737488351232 := Nat.le_trans (takeR_size2 _ _) hz0
  have hz2 : (ttR (takeR (takeR (takeR (takeR b 1) 1) 4) 3)).size ≤ 140737488351232 := Nat.le_trans (ttR_size2 _) hz1
  have hz3 : (takeR (ttR (takeR (takeR (takeR (takeR b 1) 1) 4) 3)) 4).size ≤ 140737488351232 := Nat.le_trans (takeR_size2 _ _) hz2
  have hz4 : (takeR (takeR (ttR (takeR (takeR (takeR (takeR b 1) 1) 4) 3)) 4) 4).size ≤ 140737488351232 := Nat.le_trans (takeR_size2 _ _) hz3
  have E := fun w => enc_Mint (takeN (takeR (takeR (takeR b 1) 1) 4) 3) (parN (ttS (takeR (takeR (takeR (takeR b 1) 1) 4) 3))) (takeN (ttR (takeR (takeR (takeR (takeR b 1) 1) 4) 3)) 4) (takeN (takeR (ttR (takeR (takeR (takeR (takeR b 1) 1) 4) 3)) 4) 4) (takeN (takeR (takeR b 1) 1) 4) w
  have P := fun w => proper_Mint (takeN (takeR (takeR (takeR b 1) 1) 4) 3) (parN (ttS (takeR (takeR (takeR (takeR b 1) 1) 4) 3))) (takeN (ttR (takeR (takeR (takeR (takeR b 1) 1) 4) 3)) 4) (takeN (takeR (ttR (takeR (takeR (takeR (takeR b 1) 1) 4) 3)) 4) 4) _ w rfl
  refine dec_of (fun w => decode_walk b _ _ _ _ _ _ _ _ _ w (Lib.hid rfl) (Lib.hid rfl) (Lib.hid hk) (Lib.hid rfl) (Lib.hid rfl) (Lib.hid rfl) (Lib.hid fun g w hrd => request_Mint g _ _ _ _ _ _ _ _ _ w hrd (by omega) (Lib.hid rfl) (Lib.hid rfl) (Lib.hid rfl) (Lib.hid rfl) (Lib.hid rfl) (Lib.hid rfl) (Lib.hid rfl) (Lib.hid rfl)) (Lib.hid fun w => enc_if (E w))) E P fun h => ?_
  rw [Bool.and_eq_true] at h
  exact h.1
set_option maxRecDepth 20000 in
theorem back_Derive (hd : ByteArray) (nm : ByteArray) (ri : Int) (ba : Int) (ex : Int) (id : Int) (more : ByteArray) (hm : more.size ≤ 140737488351232) (hs : nm.size ≤ 140737488351232) (h : deriveR hd nm ri ba ex = true) (ha : askOk id = true) (w : World) :
    Calls Try.prog 16 #[.string (encS true 4 id (wr_Derive hd nm ri ba ex) ++ more)] w fun e w' => e = .returned (decR (more.toList == (⟨#[]⟩ : ByteArray).toList) id (.iface 83 (.agg #[.string hd, .string nm, .int .i64 ri, .int .i64 ba, .int .i64 ex]))) ∧ Below w.heap.size w w' := by
  have hwz := wr_Derive_size hd nm ri ba ex h
  have hpc := pc_le 16 ri.toNat
  have E := fun w => enc_Derive hd nm ri ba ex id w hs
  rw [h, ha] at E
  unfold deriveR at h
  simp only [Bool.and_eq_true] at h
  have r0 := hdB_size h.1.1
  have r1 := rightB_size h.1.2
  have r2 := mayB_in h.2
  have hh := head_read 4 id (wr_Derive hd nm ri ba ex) more (by decide) ha
  have hz : (wr_Derive hd nm ri ba ex ++ more).size ≤ 9223372036854775807 := by rw [ByteArray.size_append]; omega
  have es : wr_Derive hd nm ri ba ex ++ more = (hd ++ (textL nm ++ (textL (textS ri) ++ (Str (putL ba 4) ++ (Str (putL ex 4) ++ more))))) := by unfold wr_Derive; simp only [ByteArray.append_assoc]
  rw [es] at hz hh
  have p0 := hd_read (s := hd) (textL nm ++ (textL (textS ri) ++ (Str (putL ba 4) ++ (Str (putL ex 4) ++ more)))) (by omega)
  have p1 := tt_text nm (textL (textS ri) ++ (Str (putL ba 4) ++ (Str (putL ex 4) ++ more))) (by omega)
  have p2 := let_read ri (Str (putL ba 4) ++ (Str (putL ex 4) ++ more)) (by omega) (by omega)
  have p3 := pt_n (n := ba) (k := 4) (Str (putL ex 4) ++ more) (by omega) (putOk_of (by omega) (by decide) (by decide) (by show _ < 4294967296; omega))
  have p4 := pt_n (n := ex) (k := 4) more (by omega) (putOk_of (by omega) (by decide) (by decide) (by show _ < 4294967296; omega))
  have D := decode_walk (encS true 4 id (wr_Derive hd nm ri ba ex) ++ more) _ _ _ (encS true 4 id (wr_Derive hd nm ri ba ex)) _ _ _ (.iface 83 (.agg #[.string hd, .string nm, .int .i64 ri, .int .i64 ba, .int .i64 ex])) true w (Lib.hid rfl) (Lib.hid rfl) (Lib.hid hh.1) (Lib.hid rfl) (Lib.hid hh.2.1) (Lib.hid hh.2.2)
    (Lib.hid fun g w hrd => by
      have := request_Derive g _ _ _ _ _ _ hd nm ri ba ex w hrd hz (Lib.hid p0.1) (Lib.hid p0.2) (Lib.hid p1.1) (Lib.hid p1.2.1) (Lib.hid p2.1) (Lib.hid p2.2) (Lib.hid p3.1) (Lib.hid p3.2) (Lib.hid p4.1) (Lib.hid p4.2)
      exact this) (Lib.hid fun w => enc_if (E w))
  rw [Bool.true_and, more_eq] at D
  exact D
set_option maxRecDepth 20000 in
theorem any_Derive (b : ByteArray) (hb : b.size ≤ 140737488351232) (hk : takeN (takeR b 1) 1 = 4) : DecAny b := by
  have hz0 : (takeR (takeR (takeR b 1) 1) 4).size ≤ 140737488351232 := Nat.le_trans (takeR_size2 _ _) (Nat.le_trans (takeR_size2 _ _) (Nat.le_trans (takeR_size2 _ _) hb))
  have hz1 : (hdR (takeR (takeR (takeR b 1) 1) 4)).size ≤ 140737488351232 := Nat.le_trans (hdR_size2 _) hz0
  have hz2 : (ttR (hdR (takeR (takeR (takeR b 1) 1) 4))).size ≤ 140737488351232 := Nat.le_trans (ttR_size2 _) hz1
  have hz3 : (ttR (ttR (hdR (takeR (takeR (takeR b 1) 1) 4)))).size ≤ 140737488351232 := Nat.le_trans (ttR_size2 _) hz2
  have hz4 : (takeR (ttR (ttR (hdR (takeR (takeR (takeR b 1) 1) 4)))) 4).size ≤ 140737488351232 := Nat.le_trans (takeR_size2 _ _) hz3
  have hz5 : (takeR (takeR (ttR (ttR (hdR (takeR (takeR (takeR b 1) 1) 4)))) 4) 4).size ≤ 140737488351232 := Nat.le_trans (takeR_size2 _ _) hz4
  have E := fun w => enc_Derive (hdS (takeR (takeR (takeR b 1) 1) 4)) (ttS (hdR (takeR (takeR (takeR b 1) 1) 4))) (parN (ttS (ttR (hdR (takeR (takeR (takeR b 1) 1) 4))))) (takeN (ttR (ttR (hdR (takeR (takeR (takeR b 1) 1) 4)))) 4) (takeN (takeR (ttR (ttR (hdR (takeR (takeR (takeR b 1) 1) 4)))) 4) 4) (takeN (takeR (takeR b 1) 1) 4) w (Nat.le_trans (ttS_size2 _) hz1)
  have P := fun w => proper_Derive (hdS (takeR (takeR (takeR b 1) 1) 4)) (ttS (hdR (takeR (takeR (takeR b 1) 1) 4))) (parN (ttS (ttR (hdR (takeR (takeR (takeR b 1) 1) 4))))) (takeN (ttR (ttR (hdR (takeR (takeR (takeR b 1) 1) 4)))) 4) (takeN (takeR (ttR (ttR (hdR (takeR (takeR (takeR b 1) 1) 4)))) 4) 4) _ w (Nat.le_trans (ttS_size2 _) hz1) rfl
  refine dec_of (fun w => decode_walk b _ _ _ _ _ _ _ _ _ w (Lib.hid rfl) (Lib.hid rfl) (Lib.hid hk) (Lib.hid rfl) (Lib.hid rfl) (Lib.hid rfl) (Lib.hid fun g w hrd => request_Derive g _ _ _ _ _ _ _ _ _ _ _ w hrd (by omega) (Lib.hid rfl) (Lib.hid rfl) (Lib.hid rfl) (Lib.hid rfl) (Lib.hid rfl) (Lib.hid rfl) (Lib.hid rfl) (Lib.hid rfl) (Lib.hid rfl) (Lib.hid rfl)) (Lib.hid fun w => enc_if (E w))) E P fun h => ?_
  rw [Bool.and_eq_true] at h
  exact h.1
set_option maxRecDepth 20000 in
theorem back_Renew (hd : ByteArray) (ex : Int) (id : Int) (more : ByteArray) (hm : more.size ≤ 140737488351232) (h : renewR hd ex = true) (ha : askOk id = true) (w : World) :
    Calls Try.prog 16 #[.string (encS true 5 id (wr_Renew hd ex) ++ more)] w fun e w' => e = .returned (decR (more.toList == (⟨#[]⟩ : ByteArray).toList) id (.iface 62 (.agg #[.string hd, .int .i64 ex]))) ∧ Below w.heap.size w w' := by
  have hwz := wr_Renew_size hd ex h
  have E := fun w => enc_Renew hd ex id w
  rw [h, ha] at E
  unfold renewR at h
  simp only [Bool.and_eq_true] at h
  have r0 := hdB_size h.1
  have r1 := inB_iff.1 h.2
  have hh := head_read 5 id (wr_Renew hd ex) more (by decide) ha
  have hz : (wr_Renew hd ex ++ more).size ≤ 9223372036854775807 := by rw [ByteArray.size_append]; omega
  have es : wr_Renew hd ex ++ more = (hd ++ (Str (putL ex 4) ++ more)) := by unfold wr_Renew; simp only [ByteArray.append_assoc]
  rw [es] at hz hh
  have p0 := hd_read (s := hd) (Str (putL ex 4) ++ more) (by omega)
  have p1 := pt_n (n := ex) (k := 4) more (by omega) (putOk_of (by omega) (by decide) (by decide) (by show _ < 4294967296; omega))
  have D := decode_walk (encS true 5 id (wr_Renew hd ex) ++ more) _ _ _ (encS true 5 id (wr_Renew hd ex)) _ _ _ (.iface 62 (.agg #[.string hd, .int .i64 ex])) true w (Lib.hid rfl) (Lib.hid rfl) (Lib.hid hh.1) (Lib.hid rfl) (Lib.hid hh.2.1) (Lib.hid hh.2.2)
    (Lib.hid fun g w hrd => by
      have := request_Renew g _ _ _ hd ex w hrd hz (Lib.hid p0.1) (Lib.hid p0.2) (Lib.hid p1.1) (Lib.hid p1.2)
      exact this) (Lib.hid fun w => enc_if (E w))
  rw [Bool.true_and, more_eq] at D
  exact D
set_option maxRecDepth 20000 in
theorem any_Renew (b : ByteArray) (hb : b.size ≤ 140737488351232) (hk : takeN (takeR b 1) 1 = 5) : DecAny b := by
  have hz0 : (takeR (takeR (takeR b 1) 1) 4).size ≤ 140737488351232 := Nat.le_trans (takeR_size2 _ _) (Nat.le_trans (takeR_size2 _ _) (Nat.le_trans (takeR_size2 _ _) hb))
  have hz1 : (hdR (takeR (takeR (takeR b 1) 1) 4)).size ≤ 140737488351232 := Nat.le_trans (hdR_size2 _) hz0
  have hz2 : (takeR (hdR (takeR (takeR (takeR b 1) 1) 4)) 4).size ≤ 140737488351232 := Nat.le_trans (takeR_size2 _ _) hz1
  have E := fun w => enc_Renew (hdS (takeR (takeR (takeR b 1) 1) 4)) (takeN (hdR (takeR (takeR (takeR b 1) 1) 4)) 4) (takeN (takeR (takeR b 1) 1) 4) w
  have P := fun w => proper_Renew (hdS (takeR (takeR (takeR b 1) 1) 4)) (takeN (hdR (takeR (takeR (takeR b 1) 1) 4)) 4) _ w rfl
  refine dec_of (fun w => decode_walk b _ _ _ _ _ _ _ _ _ w (Lib.hid rfl) (Lib.hid rfl) (Lib.hid hk) (Lib.hid rfl) (Lib.hid rfl) (Lib.hid rfl) (Lib.hid fun g w hrd => request_Renew g _ _ _ _ _ w hrd (by omega) (Lib.hid rfl) (Lib.hid rfl) (Lib.hid rfl) (Lib.hid rfl)) (Lib.hid fun w => enc_if (E w))) E P fun h => ?_
  rw [Bool.and_eq_true] at h
  exact h.1
set_option maxRecDepth 20000 in
theorem back_Validate (hd : ByteArray) (id : Int) (more : ByteArray) (hm : more.size ≤ 140737488351232) (h : validateR hd = true) (ha : askOk id = true) (w : World) :
    Calls Try.prog 16 #[.string (encS true 6 id (wr_Validate hd) ++ more)] w fun e w' => e = .returned (decR (more.toList == (⟨#[]⟩ : ByteArray).toList) id (.iface 55 (.agg #[.string hd]))) ∧ Below w.heap.size w w' := by
  have hwz := wr_Validate_size hd h
  have E := fun w => enc_Validate hd id w
  rw [h, ha] at E
  unfold validateR at h
  have r0 := hdB_size h
  have hh := head_read 6 id (wr_Validate hd) more (by decide) ha
  have hz : (wr_Validate hd ++ more).size ≤ 9223372036854775807 := by rw [ByteArray.size_append]; omega
  have es : wr_Validate hd ++ more = (hd ++ more) := rfl
  rw [es] at hz hh
  have p0 := hd_read (s := hd) more (by omega)
  have D := decode_walk (encS true 6 id (wr_Validate hd) ++ more) _ _ _ (encS true 6 id (wr_Validate hd)) _ _ _ (.iface 55 (.agg #[.string hd])) true w (Lib.hid rfl) (Lib.hid rfl) (Lib.hid hh.1) (Lib.hid rfl) (Lib.hid hh.2.1) (Lib.hid hh.2.2)
    (Lib.hid fun g w hrd => by
      have := request_Validate g _ _ hd w hrd hz (Lib.hid p0.1) (Lib.hid p0.2)
      exact this) (Lib.hid fun w => enc_if (E w))
  rw [Bool.true_and, more_eq] at D
  exact D
set_option maxRecDepth 20000 in
theorem any_Validate (b : ByteArray) (hb : b.size ≤ 140737488351232) (hk : takeN (takeR b 1) 1 = 6) : DecAny b := by
  have hz0 : (takeR (takeR (takeR b 1) 1) 4).size ≤ 140737488351232 := Nat.le_trans (takeR_size2 _ _) (Nat.le_trans (takeR_size2 _ _) (Nat.le_trans (takeR_size2 _ _) hb))
  have hz1 : (hdR (takeR (takeR (takeR b 1) 1) 4)).size ≤ 140737488351232 := Nat.le_trans (hdR_size2 _) hz0
  have E := fun w => enc_Validate (hdS (takeR (takeR (takeR b 1) 1) 4)) (takeN (takeR (takeR b 1) 1) 4) w
  have P := fun w => proper_Validate (hdS (takeR (takeR (takeR b 1) 1) 4)) _ w rfl
  refine dec_of (fun w => decode_walk b _ _ _ _ _ _ _ _ _ w (Lib.hid rfl) (Lib.hid rfl) (Lib.hid hk) (Lib.hid rfl) (Lib.hid rfl) (Lib.hid rfl) (Lib.hid fun g w hrd => request_Validate g _ _ _ w hrd (by omega) (Lib.hid rfl) (Lib.hid rfl)) (Lib.hid fun w => enc_if (E w))) E P fun h => ?_
  rw [Bool.and_eq_true] at h
  exact h.1
set_option maxRecDepth 20000 in
theorem back_Invoke (hd : ByteArray) (rt : Int) (id : Int) (more : ByteArray) (hm : more.size ≤ 140737488351232) (h : invokeR hd rt = true) (ha : askOk id = true) (w : World) :
    Calls Try.prog 16 #[.string (encS true 7 id (wr_Invoke hd rt) ++ more)] w fun e w' => e = .returned (decR (more.toList == (⟨#[]⟩ : ByteArray).toList) id (.iface 58 (.agg #[.string hd, .int .i32 rt]))) ∧ Below w.heap.size w w' := by
  have hwz := wr_Invoke_size hd rt h
  have E := fun w => enc_Invoke hd rt id w
  rw [h, ha] at E
  unfold invokeR at h
  simp only [Bool.and_eq_true] at h
  have r0 := hdB_size h.1
  have r1 := inB_iff.1 h.2
  have hh := head_read 7 id (wr_Invoke hd rt) more (by decide) ha
  have hz : (wr_Invoke hd rt ++ more).size ≤ 9223372036854775807 := by rw [ByteArray.size_append]; omega
  have es : wr_Invoke hd rt ++ more = (hd ++ (textL (Utf8.encode rt) ++ more)) := by unfold wr_Invoke; simp only [ByteArray.append_assoc]
  rw [es] at hz hh
  have p0 := hd_read (s := hd) (textL (Utf8.encode rt) ++ more) (by omega)
  have p1 := tt_text (Utf8.encode rt) more (by rw [enc_letter rt (by omega) (by omega), Str_size]; simp)
  have pl := ltr_read rt (by omega) (by omega)
  rw [← p1.1] at pl
  have D := decode_walk (encS true 7 id (wr_Invoke hd rt) ++ more) _ _ _ (encS true 7 id (wr_Invoke hd rt)) _ _ _ (.iface 58 (.agg #[.string hd, .int .i32 rt])) true w (Lib.hid rfl) (Lib.hid rfl) (Lib.hid hh.1) (Lib.hid rfl) (Lib.hid hh.2.1) (Lib.hid hh.2.2)
    (Lib.hid fun g w hrd => by
      have := request_Invoke g _ _ _ hd rt w hrd hz (Lib.hid p0.1) (Lib.hid p0.2) (Lib.hid pl) (Lib.hid p1.2.1)
      exact this) (Lib.hid fun w => enc_if (E w))
  rw [Bool.true_and, more_eq] at D
  exact D
set_option maxRecDepth 20000 in
theorem any_Invoke (b : ByteArray) (hb : b.size ≤ 140737488351232) (hk : takeN (takeR b 1) 1 = 7) : DecAny b := by
  have hz0 : (takeR (takeR (takeR b 1) 1) 4).size ≤ 140737488351232 := Nat.le_trans (takeR_size2 _ _) (Nat.le_trans (takeR_size2 _ _) (Nat.le_trans (takeR_size2 _ _) hb))
  have hz1 : (hdR (takeR (takeR (takeR b 1) 1) 4)).size ≤ 140737488351232 := Nat.le_trans (hdR_size2 _) hz0
  have hz2 : (ttR (hdR (takeR (takeR (takeR b 1) 1) 4))).size ≤ 140737488351232 := Nat.le_trans (ttR_size2 _) hz1
  have E := fun w => enc_Invoke (hdS (takeR (takeR (takeR b 1) 1) 4)) (ltr (ttS (hdR (takeR (takeR (takeR b 1) 1) 4)))) (takeN (takeR (takeR b 1) 1) 4) w
  have P := fun w => proper_Invoke (hdS (takeR (takeR (takeR b 1) 1) 4)) (ltr (ttS (hdR (takeR (takeR (takeR b 1) 1) 4)))) _ w rfl
  refine dec_of (fun w => decode_walk b _ _ _ _ _ _ _ _ _ w (Lib.hid rfl) (Lib.hid rfl) (Lib.hid hk) (Lib.hid rfl) (Lib.hid rfl) (Lib.hid rfl) (Lib.hid fun g w hrd => request_Invoke g _ _ _ _ _ w hrd (by omega) (Lib.hid rfl) (Lib.hid rfl) (Lib.hid rfl) (Lib.hid rfl)) (Lib.hid fun w => enc_if (E w))) E P fun h => ?_
  rw [Bool.and_eq_true] at h
  exact h.1
set_option maxRecDepth 20000 in
theorem back_Revoke (hd : ByteArray) (sf : Bool) (id : Int) (more : ByteArray) (hm : more.size ≤ 140737488351232) (h : revokeR hd = true) (ha : askOk id = true) (w : World) :
    Calls Try.prog 16 #[.string (encS true 8 id (wr_Revoke hd sf) ++ more)] w fun e w' => e = .returned (decR (more.toList == (⟨#[]⟩ : ByteArray).toList) id (.iface 85 (.agg #[.string hd, .bool sf]))) ∧ Below w.heap.size w w' := by
  have hwz := wr_Revoke_size hd sf h
  have E := fun w => enc_Revoke hd sf id w
  rw [h, ha] at E
  unfold revokeR at h
  have r0 := hdB_size h
  have hh := head_read 8 id (wr_Revoke hd sf) more (by decide) ha
  have hz : (wr_Revoke hd sf ++ more).size ≤ 9223372036854775807 := by rw [ByteArray.size_append]; omega
  have es : wr_Revoke hd sf ++ more = (hd ++ (yesB sf ++ more)) := by unfold wr_Revoke; simp only [ByteArray.append_assoc]
  rw [es] at hz hh
  have p0 := hd_read (s := hd) (yesB sf ++ more) (by omega)
  have p1 := yes_read sf more
  have D := decode_walk (encS true 8 id (wr_Revoke hd sf) ++ more) _ _ _ (encS true 8 id (wr_Revoke hd sf)) _ _ _ (.iface 85 (.agg #[.string hd, .bool sf])) true w (Lib.hid rfl) (Lib.hid rfl) (Lib.hid hh.1) (Lib.hid rfl) (Lib.hid hh.2.1) (Lib.hid hh.2.2)
    (Lib.hid fun g w hrd => by
      have := request_Revoke g _ _ _ hd _ w hrd hz (Lib.hid p0.1) (Lib.hid p0.2) (Lib.hid rfl) (Lib.hid p1.2)
      rw [p1.1] at this
      exact this) (Lib.hid fun w => enc_if (E w))
  rw [Bool.true_and, more_eq] at D
  exact D
set_option maxRecDepth 20000 in
theorem any_Revoke (b : ByteArray) (hb : b.size ≤ 140737488351232) (hk : takeN (takeR b 1) 1 = 8) : DecAny b := by
  have hz0 : (takeR (takeR (takeR b 1) 1) 4).size ≤ 140737488351232 := Nat.le_trans (takeR_size2 _ _) (Nat.le_trans (takeR_size2 _ _) (Nat.le_trans (takeR_size2 _ _) hb))
  have hz1 : (hdR (takeR (takeR (takeR b 1) 1) 4)).size ≤ 140737488351232 := Nat.le_trans (hdR_size2 _) hz0
  have hz2 : (takeR (hdR (takeR (takeR (takeR b 1) 1) 4)) 1).size ≤ 140737488351232 := Nat.le_trans (takeR_size2 _ _) hz1
  have E := fun w => enc_Revoke (hdS (takeR (takeR (takeR b 1) 1) 4)) ((takeN (hdR (takeR (takeR (takeR b 1) 1) 4)) 1 == 1)) (takeN (takeR (takeR b 1) 1) 4) w
  have P := fun w => proper_Revoke (hdS (takeR (takeR (takeR b 1) 1) 4)) ((takeN (hdR (takeR (takeR (takeR b 1) 1) 4)) 1 == 1)) _ w rfl
  refine dec_of (fun w => decode_walk b _ _ _ _ _ _ _ _ _ w (Lib.hid rfl) (Lib.hid rfl) (Lib.hid hk) (Lib.hid rfl) (Lib.hid rfl) (Lib.hid rfl) (Lib.hid fun g w hrd => request_Revoke g _ _ _ _ _ w hrd (by omega) (Lib.hid rfl) (Lib.hid rfl) (Lib.hid rfl) (Lib.hid rfl)) (Lib.hid fun w => enc_if (E w))) E P fun h => ?_
  rw [Bool.and_eq_true] at h
  exact h.1
set_option maxRecDepth 20000 in
theorem back_Delete (hd : ByteArray) (id : Int) (more : ByteArray) (hm : more.size ≤ 140737488351232) (h : deleteR hd = true) (ha : askOk id = true) (w : World) :
    Calls Try.prog 16 #[.string (encS true 9 id (wr_Delete hd) ++ more)] w fun e w' => e = .returned (decR (more.toList == (⟨#[]⟩ : ByteArray).toList) id (.iface 86 (.agg #[.string hd]))) ∧ Below w.heap.size w w' := by
  have hwz := wr_Delete_size hd h
  have E := fun w => enc_Delete hd id w
  rw [h, ha] at E
  unfold deleteR at h
  have r0 := hdB_size h
  have hh := head_read 9 id (wr_Delete hd) more (by decide) ha
  have hz : (wr_Delete hd ++ more).size ≤ 9223372036854775807 := by rw [ByteArray.size_append]; omega
  have es : wr_Delete hd ++ more = (hd ++ more) := rfl
  rw [es] at hz hh
  have p0 := hd_read (s := hd) more (by omega)
  have D := decode_walk (encS true 9 id (wr_Delete hd) ++ more) _ _ _ (encS true 9 id (wr_Delete hd)) _ _ _ (.iface 86 (.agg #[.string hd])) true w (Lib.hid rfl) (Lib.hid rfl) (Lib.hid hh.1) (Lib.hid rfl) (Lib.hid hh.2.1) (Lib.hid hh.2.2)
    (Lib.hid fun g w hrd => by
      have := request_Delete g _ _ hd w hrd hz (Lib.hid p0.1) (Lib.hid p0.2)
      exact this) (Lib.hid fun w => enc_if (E w))
  rw [Bool.true_and, more_eq] at D
  exact D
set_option maxRecDepth 20000 in
theorem any_Delete (b : ByteArray) (hb : b.size ≤ 140737488351232) (hk : takeN (takeR b 1) 1 = 9) : DecAny b := by
  have hz0 : (takeR (takeR (takeR b 1) 1) 4).size ≤ 140737488351232 := Nat.le_trans (takeR_size2 _ _) (Nat.le_trans (takeR_size2 _ _) (Nat.le_trans (takeR_size2 _ _) hb))
  have hz1 : (hdR (takeR (takeR (takeR b 1) 1) 4)).size ≤ 140737488351232 := Nat.le_trans (hdR_size2 _) hz0
  have E := fun w => enc_Delete (hdS (takeR (takeR (takeR b 1) 1) 4)) (takeN (takeR (takeR b 1) 1) 4) w
  have P := fun w => proper_Delete (hdS (takeR (takeR (takeR b 1) 1) 4)) _ w rfl
  refine dec_of (fun w => decode_walk b _ _ _ _ _ _ _ _ _ w (Lib.hid rfl) (Lib.hid rfl) (Lib.hid hk) (Lib.hid rfl) (Lib.hid rfl) (Lib.hid rfl) (Lib.hid fun g w hrd => request_Delete g _ _ _ w hrd (by omega) (Lib.hid rfl) (Lib.hid rfl)) (Lib.hid fun w => enc_if (E w))) E P fun h => ?_
  rw [Bool.and_eq_true] at h
  exact h.1
set_option maxRecDepth 20000 in
theorem back_Move (hd : ByteArray) (to : ByteArray) (id : Int) (more : ByteArray) (hm : more.size ≤ 140737488351232) (h : moveR hd to = true) (ha : askOk id = true) (w : World) :
    Calls Try.prog 16 #[.string (encS true 10 id (wr_Move hd to) ++ more)] w fun e w' => e = .returned (decR (more.toList == (⟨#[]⟩ : ByteArray).toList) id (.iface 88 (.agg #[.string hd, .string to]))) ∧ Below w.heap.size w w' := by
  have hwz := wr_Move_size hd to h
  have E := fun w => enc_Move hd to id w
  rw [h, ha] at E
  unfold moveR at h
  simp only [Bool.and_eq_true] at h
  have r0 := hdB_size h.1
  have r1 := hdB_size h.2
  have hh := head_read 10 id (wr_Move hd to) more (by decide) ha
  have hz : (wr_Move hd to ++ more).size ≤ 9223372036854775807 := by rw [ByteArray.size_append]; omega
  have es : wr_Move hd to ++ more = (hd ++ (to ++ more)) := by unfold wr_Move; simp only [ByteArray.append_assoc]
  rw [es] at hz hh
  have p0 := hd_read (s := hd) (to ++ more) (by omega)
  have p1 := hd_read (s := to) more (by omega)
  have D := decode_walk (encS true 10 id (wr_Move hd to) ++ more) _ _ _ (encS true 10 id (wr_Move hd to)) _ _ _ (.iface 88 (.agg #[.string hd, .string to])) true w (Lib.hid rfl) (Lib.hid rfl) (Lib.hid hh.1) (Lib.hid rfl) (Lib.hid hh.2.1) (Lib.hid hh.2.2)
    (Lib.hid fun g w hrd => by
      have := request_Move g _ _ _ hd to w hrd hz (Lib.hid p0.1) (Lib.hid p0.2) (Lib.hid p1.1) (Lib.hid p1.2)
      exact this) (Lib.hid fun w => enc_if (E w))
  rw [Bool.true_and, more_eq] at D
  exact D
set_option maxRecDepth 20000 in
theorem any_Move (b : ByteArray) (hb : b.size ≤ 140737488351232) (hk : takeN (takeR b 1) 1 = 10) : DecAny b := by
  have hz0 : (takeR (takeR (takeR b 1) 1) 4).size ≤ 140737488351232 := Nat.le_trans (takeR_size2 _ _) (Nat.le_trans (takeR_size2 _ _) (Nat.le_trans (takeR_size2 _ _) hb))
  have hz1 : (hdR (takeR (takeR (takeR b 1) 1) 4)).size ≤ 140737488351232 := Nat.le_trans (hdR_size2 _) hz0
  have hz2 : (hdR (hdR (takeR (takeR (takeR b 1) 1) 4))).size ≤ 140737488351232 := Nat.le_trans (hdR_size2 _) hz1
  have E := fun w => enc_Move (hdS (takeR (takeR (takeR b 1) 1) 4)) (hdS (hdR (takeR (takeR (takeR b 1) 1) 4))) (takeN (takeR (takeR b 1) 1) 4) w
  have P := fun w => proper_Move (hdS (takeR (takeR (takeR b 1) 1) 4)) (hdS (hdR (takeR (takeR (takeR b 1) 1) 4))) _ w rfl
  refine dec_of (fun w => decode_walk b _ _ _ _ _ _ _ _ _ w (Lib.hid rfl) (Lib.hid rfl) (Lib.hid hk) (Lib.hid rfl) (Lib.hid rfl) (Lib.hid rfl) (Lib.hid fun g w hrd => request_Move g _ _ _ _ _ w hrd (by omega) (Lib.hid rfl) (Lib.hid rfl) (Lib.hid rfl) (Lib.hid rfl)) (Lib.hid fun w => enc_if (E w))) E P fun h => ?_
  rw [Bool.and_eq_true] at h
  exact h.1
set_option maxRecDepth 20000 in
theorem back_List (hd : ByteArray) (fr : Int) (mo : Int) (id : Int) (more : ByteArray) (hm : more.size ≤ 140737488351232) (h : listR hd fr mo = true) (ha : askOk id = true) (w : World) :
    Calls Try.prog 16 #[.string (encS true 11 id (wr_List hd fr mo) ++ more)] w fun e w' => e = .returned (decR (more.toList == (⟨#[]⟩ : ByteArray).toList) id (.iface 60 (.agg #[.string hd, .int .i64 fr, .int .i64 mo]))) ∧ Below w.heap.size w w' := by
  have hwz := wr_List_size hd fr mo h
  have E := fun w => enc_List hd fr mo id w
  rw [h, ha] at E
  unfold listR at h
  simp only [Bool.and_eq_true] at h
  have r0 := hdB_size h.1.1
  have r1 := inB_iff.1 h.1.2
  have r2 := inB_iff.1 h.2
  have hh := head_read 11 id (wr_List hd fr mo) more (by decide) ha
  have hz : (wr_List hd fr mo ++ more).size ≤ 9223372036854775807 := by rw [ByteArray.size_append]; omega
  have es : wr_List hd fr mo ++ more = (hd ++ (Str (putL fr 3) ++ (Str (putL mo 1) ++ more))) := by unfold wr_List; simp only [ByteArray.append_assoc]
  rw [es] at hz hh
  have p0 := hd_read (s := hd) (Str (putL fr 3) ++ (Str (putL mo 1) ++ more)) (by omega)
  have p1 := pt_n (n := fr) (k := 3) (Str (putL mo 1) ++ more) (by omega) (putOk_of (by omega) (by decide) (by decide) (by show _ < 16777216; omega))
  have p2 := pt_n (n := mo) (k := 1) more (by omega) (putOk_of (by omega) (by decide) (by decide) (by show _ < 256; omega))
  have D := decode_walk (encS true 11 id (wr_List hd fr mo) ++ more) _ _ _ (encS true 11 id (wr_List hd fr mo)) _ _ _ (.iface 60 (.agg #[.string hd, .int .i64 fr, .int .i64 mo])) true w (Lib.hid rfl) (Lib.hid rfl) (Lib.hid hh.1) (Lib.hid rfl) (Lib.hid hh.2.1) (Lib.hid hh.2.2)
    (Lib.hid fun g w hrd => by
      have := request_List g _ _ _ _ hd fr mo w hrd hz (Lib.hid p0.1) (Lib.hid p0.2) (Lib.hid p1.1) (Lib.hid p1.2) (Lib.hid p2.1) (Lib.hid p2.2)
      exact this) (Lib.hid fun w => enc_if (E w))
  rw [Bool.true_and, more_eq] at D
  exact D
set_option maxRecDepth 20000 in
theorem any_List (b : ByteArray) (hb : b.size ≤ 140737488351232) (hk : takeN (takeR b 1) 1 = 11) : DecAny b := by
  have hz0 : (takeR (takeR (takeR b 1) 1) 4).size ≤ 140737488351232 := Nat.le_trans (takeR_size2 _ _) (Nat.le_trans (takeR_size2 _ _) (Nat.le_trans (takeR_size2 _ _) hb))
  have hz1 : (hdR (takeR (takeR (takeR b 1) 1) 4)).size ≤ 140737488351232 := Nat.le_trans (hdR_size2 _) hz0
  have hz2 : (takeR (hdR (takeR (takeR (takeR b 1) 1) 4)) 3).size ≤ 140737488351232 := Nat.le_trans (takeR_size2 _ _) hz1
  have hz3 : (takeR (takeR (hdR (takeR (takeR (takeR b 1) 1) 4)) 3) 1).size ≤ 140737488351232 := Nat.le_trans (takeR_size2 _ _) hz2
  have E := fun w => enc_List (hdS (takeR (takeR (takeR b 1) 1) 4)) (takeN (hdR (takeR (takeR (takeR b 1) 1) 4)) 3) (takeN (takeR (hdR (takeR (takeR (takeR b 1) 1) 4)) 3) 1) (takeN (takeR (takeR b 1) 1) 4) w
  have P := fun w => proper_List (hdS (takeR (takeR (takeR b 1) 1) 4)) (takeN (hdR (takeR (takeR (takeR b 1) 1) 4)) 3) (takeN (takeR (hdR (takeR (takeR (takeR b 1) 1) 4)) 3) 1) _ w rfl
  refine dec_of (fun w => decode_walk b _ _ _ _ _ _ _ _ _ w (Lib.hid rfl) (Lib.hid rfl) (Lib.hid hk) (Lib.hid rfl) (Lib.hid rfl) (Lib.hid rfl) (Lib.hid fun g w hrd => request_List g _ _ _ _ _ _ _ w hrd (by omega) (Lib.hid rfl) (Lib.hid rfl) (Lib.hid rfl) (Lib.hid rfl) (Lib.hid rfl) (Lib.hid rfl)) (Lib.hid fun w => enc_if (E w))) E P fun h => ?_
  rw [Bool.and_eq_true] at h
  exact h.1
set_option maxRecDepth 20000 in
theorem back_Quota  (id : Int) (more : ByteArray) (hm : more.size ≤ 140737488351232) (h : quotaR  = true) (ha : askOk id = true) (w : World) :
    Calls Try.prog 16 #[.string (encS true 12 id (wr_Quota ) ++ more)] w fun e w' => e = .returned (decR (more.toList == (⟨#[]⟩ : ByteArray).toList) id (.iface 68 (.agg #[]))) ∧ Below w.heap.size w w' := by
  have hwz := wr_Quota_size  h
  have E := fun w => enc_Quota  id w
  rw [h, ha] at E
  have hh := head_read 12 id (wr_Quota ) more (by decide) ha
  have hz : (wr_Quota  ++ more).size ≤ 9223372036854775807 := by rw [ByteArray.size_append]; omega
  have es : wr_Quota  ++ more = more := by unfold wr_Quota; rw [empty_append]
  rw [es] at hz hh
  have D := decode_walk (encS true 12 id (wr_Quota ) ++ more) _ _ _ (encS true 12 id (wr_Quota )) _ _ _ (.iface 68 (.agg #[])) true w (Lib.hid rfl) (Lib.hid rfl) (Lib.hid hh.1) (Lib.hid rfl) (Lib.hid hh.2.1) (Lib.hid hh.2.2)
    (Lib.hid fun g w hrd => by
      have := request_Quota g _  w hrd hz 
      exact this) (Lib.hid fun w => enc_if (E w))
  rw [Bool.true_and, more_eq] at D
  exact D
set_option maxRecDepth 20000 in
theorem any_Quota (b : ByteArray) (hb : b.size ≤ 140737488351232) (hk : takeN (takeR b 1) 1 = 12) : DecAny b := by
  have hz0 : (takeR (takeR (takeR b 1) 1) 4).size ≤ 140737488351232 := Nat.le_trans (takeR_size2 _ _) (Nat.le_trans (takeR_size2 _ _) (Nat.le_trans (takeR_size2 _ _) hb))
  have E := fun w => enc_Quota  (takeN (takeR (takeR b 1) 1) 4) w
  have P := fun w => proper_Quota  _ w rfl
  refine dec_of (fun w => decode_walk b _ _ _ _ _ _ _ _ _ w (Lib.hid rfl) (Lib.hid rfl) (Lib.hid hk) (Lib.hid rfl) (Lib.hid rfl) (Lib.hid rfl) (Lib.hid fun g w hrd => request_Quota g _  w hrd (by omega) ) (Lib.hid fun w => enc_if (E w))) E P fun h => ?_
  rw [Bool.and_eq_true] at h
  exact h.1
set_option maxRecDepth 20000 in
theorem back_Rotate  (id : Int) (more : ByteArray) (hm : more.size ≤ 140737488351232) (h : rotateR  = true) (ha : askOk id = true) (w : World) :
    Calls Try.prog 16 #[.string (encS true 13 id (wr_Rotate ) ++ more)] w fun e w' => e = .returned (decR (more.toList == (⟨#[]⟩ : ByteArray).toList) id (.iface 89 (.agg #[]))) ∧ Below w.heap.size w w' := by
  have hwz := wr_Rotate_size  h
  have E := fun w => enc_Rotate  id w
  rw [h, ha] at E
  have hh := head_read 13 id (wr_Rotate ) more (by decide) ha
  have hz : (wr_Rotate  ++ more).size ≤ 9223372036854775807 := by rw [ByteArray.size_append]; omega
  have es : wr_Rotate  ++ more = more := by unfold wr_Rotate; rw [empty_append]
  rw [es] at hz hh
  have D := decode_walk (encS true 13 id (wr_Rotate ) ++ more) _ _ _ (encS true 13 id (wr_Rotate )) _ _ _ (.iface 89 (.agg #[])) true w (Lib.hid rfl) (Lib.hid rfl) (Lib.hid hh.1) (Lib.hid rfl) (Lib.hid hh.2.1) (Lib.hid hh.2.2)
    (Lib.hid fun g w hrd => by
      have := request_Rotate g _  w hrd hz 
      exact this) (Lib.hid fun w => enc_if (E w))
  rw [Bool.true_and, more_eq] at D
  exact D
set_option maxRecDepth 20000 in
theorem any_Rotate (b : ByteArray) (hb : b.size ≤ 140737488351232) (hk : takeN (takeR b 1) 1 = 13) : DecAny b := by
  have hz0 : (takeR (takeR (takeR b 1) 1) 4).size ≤ 140737488351232 := Nat.le_trans (takeR_size2 _ _) (Nat.le_trans (takeR_size2 _ _) (Nat.le_trans (takeR_size2 _ _) hb))
  have E := fun w => enc_Rotate  (takeN (takeR (takeR b 1) 1) 4) w
  have P := fun w => proper_Rotate  _ w rfl
  refine dec_of (fun w => decode_walk b _ _ _ _ _ _ _ _ _ w (Lib.hid rfl) (Lib.hid rfl) (Lib.hid hk) (Lib.hid rfl) (Lib.hid rfl) (Lib.hid rfl) (Lib.hid fun g w hrd => request_Rotate g _  w hrd (by omega) ) (Lib.hid fun w => enc_if (E w))) E P fun h => ?_
  rw [Bool.and_eq_true] at h
  exact h.1
theorem any_none (b : ByteArray) (hk : takeN (takeR b 1) 1 < 1 ∨ 13 < takeN (takeR b 1) 1) : DecAny b := by
  have D := fun w => decode_walk b _ _ _ ⟨#[]⟩ _ _ _ .nilIface false w (Lib.hid rfl) (Lib.hid rfl) (Lib.hid rfl) (Lib.hid rfl) (Lib.hid rfl) (Lib.hid rfl) (Lib.hid fun g w hrd => (request_none _ _ w hk).mono fun e w' h => by
    obtain ⟨rfl, rfl⟩ := h
    exact ⟨rfl, Below.refl _ _⟩) (Lib.hid fun w => im_encode _ _ w (Lib.hid stray_n))
  exact ⟨0, .nilIface, 2, _, _, false, D, fun w => im_encode _ 0 w (Lib.hid stray_n), fun w => im_right _ w (Lib.hid stray_n), .inl rfl⟩
theorem dec_any (b : ByteArray) (hb : b.size ≤ 140737488351232) : DecAny b := by
  by_cases hk : takeN (takeR b 1) 1 < 1 ∨ 13 < takeN (takeR b 1) 1
  · exact any_none b hk
  · have hc : takeN (takeR b 1) 1 = 1 ∨ takeN (takeR b 1) 1 = 2 ∨ takeN (takeR b 1) 1 = 3 ∨ takeN (takeR b 1) 1 = 4 ∨ takeN (takeR b 1) 1 = 5 ∨ takeN (takeR b 1) 1 = 6 ∨ takeN (takeR b 1) 1 = 7 ∨ takeN (takeR b 1) 1 = 8 ∨ takeN (takeR b 1) 1 = 9 ∨ takeN (takeR b 1) 1 = 10 ∨ takeN (takeR b 1) 1 = 11 ∨ takeN (takeR b 1) 1 = 12 ∨ takeN (takeR b 1) 1 = 13 := by omega
    rcases hc with h | h | h | h | h | h | h | h | h | h | h | h | h
    · exact any_Hello b hb h
    · exact any_Register b hb h
    · exact any_Mint b hb h
    · exact any_Derive b hb h
    · exact any_Renew b hb h
    · exact any_Validate b hb h
    · exact any_Invoke b hb h
    · exact any_Revoke b hb h
    · exact any_Delete b hb h
    · exact any_Move b hb h
    · exact any_List b hb h
    · exact any_Quota b hb h
    · exact any_Rotate b hb h
end Go.Proofs.Ytemhlhcaahaecaa
