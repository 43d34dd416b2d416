/-
  What is written of a record is read as it was.
-/
import Derived.Test.YtlbnakoaflladaaRecKit
import Derived.Test.YtlbnakoaflladaaTakePut
namespace Go.Proofs.Ytlbnakoaflladaa
open Go.RowKit
set_option linter.unusedVariables false
theorem putOk_of {n k : Int} (h0 : 0 ≤ n) (k1 : 1 ≤ k) (k8 : k ≤ 8) (h : n.toNat < 256 ^ k.toNat) : putOk n k = true := by
  obtain ⟨m, rfl⟩ := Int.eq_ofNat_of_zero_le h0
  exact (putOk_nat m k).2 ⟨k1, k8, by simpa using h⟩
theorem putOk_yes (b : Bool) : putOk (yesN b) 1 = true ∧ 0 ≤ yesN b := by cases b <;> decide
theorem put_len (s : ByteArray) {k : Int} (h1 : 1 ≤ k) (h8 : k ≤ 8) : (Str (putL (takeN s k) k)).size = k.toNat := by
  have := pt_size (pt_room s h1 h8).1
  omega
theorem capOk_put {id pa ob ow ri ba de ex cu : Int} (h : capOk id pa ob ow ri ba de ex cu = true) :
    (putOk pa 3 = true ∧ 0 ≤ pa) ∧ (putOk ob 3 = true ∧ 0 ≤ ob) ∧ (putOk ow 3 = true ∧ 0 ≤ ow) ∧ (putOk ri 2 = true ∧ 0 ≤ ri) ∧ (putOk ba 4 = true ∧ 0 ≤ ba) ∧ (putOk de 1 = true ∧ 0 ≤ de) ∧ (putOk ex 4 = true ∧ 0 ≤ ex) ∧ (putOk cu 3 = true ∧ 0 ≤ cu) := by
  unfold capOk at h
  simp only [Bool.and_eq_true, inB_iff, maskOk_in] at h
  obtain ⟨⟨⟨⟨⟨⟨⟨⟨⟨⟨h0, h1⟩, h2⟩, h3⟩, h4⟩, h5⟩, h6⟩, h7⟩, h8⟩, h9⟩, h10⟩ := h
  refine ⟨⟨putOk_of (by omega) (by decide) (by decide) ?_, by omega⟩, ⟨putOk_of (by omega) (by decide) (by decide) ?_, by omega⟩, ⟨putOk_of (by omega) (by decide) (by decide) ?_, by omega⟩, ⟨putOk_of (by omega) (by decide) (by decide) ?_, by omega⟩, ⟨putOk_of (by omega) (by decide) (by decide) ?_, by omega⟩, ⟨putOk_of (by omega) (by decide) (by decide) ?_, by omega⟩, ⟨putOk_of (by omega) (by decide) (by decide) ?_, by omega⟩, ⟨putOk_of (by omega) (by decide) (by decide) ?_, by omega⟩⟩
  · show _ < 16777216; omega
  · show _ < 16777216; omega
  · show _ < 16777216; omega
  · show _ < 65536; omega
  · show _ < 4294967296; omega
  · show _ < 256; omega
  · show _ < 4294967296; omega
  · show _ < 16777216; omega
theorem cap_flds {id pa ob ow ri ba de ex cu : Int} (rv : Bool) (rest : ByteArray) (h : capOk id pa ob ow ri ba de ex cu = true) (s : ByteArray) (hs : capB pa ob ow ri ba de ex cu rv ++ rest = s) :
    tcap0 s = pa ∧ tcap1 s = ob ∧ tcap2 s = ow ∧ tcap3 s = ri ∧ tcap4 s = ba ∧ tcap5 s = de ∧ tcap6 s = ex ∧ tcap7 s = cu ∧ tcap8 s = yesN rv := by
  obtain ⟨p0, p1, p2, p3, p4, p5, p6, p7⟩ := capOk_put h
  have p8 := putOk_yes rv
  have q0 := fun rest => pt_n (n := pa) (k := 3) rest p0.2 p0.1
  have q1 := fun rest => pt_n (n := ob) (k := 3) rest p1.2 p1.1
  have q2 := fun rest => pt_n (n := ow) (k := 3) rest p2.2 p2.1
  have q3 := fun rest => pt_n (n := ri) (k := 2) rest p3.2 p3.1
  have q4 := fun rest => pt_n (n := ba) (k := 4) rest p4.2 p4.1
  have q5 := fun rest => pt_n (n := de) (k := 1) rest p5.2 p5.1
  have q6 := fun rest => pt_n (n := ex) (k := 4) rest p6.2 p6.1
  have q7 := fun rest => pt_n (n := cu) (k := 3) rest p7.2 p7.1
  have q8 := fun rest => pt_n (n := yesN rv) (k := 1) rest p8.2 p8.1
  have e : s = Str (putL pa 3) ++ (Str (putL ob 3) ++ (Str (putL ow 3) ++ (Str (putL ri 2) ++ (Str (putL ba 4) ++ (Str (putL de 1) ++ (Str (putL ex 4) ++ (Str (putL cu 3) ++ (Str (putL (yesN rv) 1) ++ rest)))))))) := by
    rw [← hs]; unfold capB; simp only [ByteArray.append_assoc]
  unfold tcap0 tcap1 tcap2 tcap3 tcap4 tcap5 tcap6 tcap7 tcap8
  rw [e, (q0 _).2, (q1 _).2, (q2 _).2, (q3 _).2, (q4 _).2, (q5 _).2, (q6 _).2, (q7 _).2]
  exact ⟨(q0 _).1, (q1 _).1, (q2 _).1, (q3 _).1, (q4 _).1, (q5 _).1, (q6 _).1, (q7 _).1, (q8 _).1⟩
theorem capB_size {id pa ob ow ri ba de ex cu : Int} (rv : Bool) (h : capOk id pa ob ow ri ba de ex cu = true) : (capB pa ob ow ri ba de ex cu rv).size = 24 := by
  obtain ⟨p0, p1, p2, p3, p4, p5, p6, p7⟩ := capOk_put h
  have p8 := putOk_yes rv
  have := pt_size p0.1; have := pt_size p1.1; have := pt_size p2.1; have := pt_size p3.1; have := pt_size p4.1; have := pt_size p5.1; have := pt_size p6.1; have := pt_size p7.1; have := pt_size p8.1
  unfold capB
  simp only [ByteArray.size_append]
  omega
theorem tcapOk_and {id : Int} {s : ByteArray} (h : tcapOk id s = true) : capOk id (tcap0 s) (tcap1 s) (tcap2 s) (tcap3 s) (tcap4 s) (tcap5 s) (tcap6 s) (tcap7 s) = true ∧ capB (tcap0 s) (tcap1 s) (tcap2 s) (tcap3 s) (tcap4 s) (tcap5 s) (tcap6 s) (tcap7 s) (tcap8 s == 1) = s := by
  simpa only [tcapOk, capW, Bool.and_eq_true, decide_eq_true_eq] using h
theorem tcapOk_size {id : Int} {s : ByteArray} (h : tcapOk id s = true) : s.size = 24 := by
  obtain ⟨h1, h2⟩ := tcapOk_and h
  rw [← h2]; exact capB_size _ h1
theorem yesN_one (b : Bool) : (yesN b == 1) = b := by cases b <;> decide
theorem cap_again_ok {id pa ob ow ri ba de ex cu : Int} (rv : Bool) (h : capOk id pa ob ow ri ba de ex cu = true) : tcapOk id (capB pa ob ow ri ba de ex cu rv) = true := by
  obtain ⟨e0, e1, e2, e3, e4, e5, e6, e7, e8⟩ := cap_flds rv ⟨#[]⟩ h (capB pa ob ow ri ba de ex cu rv) (append_empty _)
  unfold tcapOk capW
  rw [e0, e1, e2, e3, e4, e5, e6, e7, e8, yesN_one, h]
  simp
/-- Slots. -/
theorem slotOk_put {id c e n : Int} (h : slotOk id c e = true) (n0 : 0 ≤ n) (n1 : n ≤ 18446744073709551615) : (putOk c 3 = true ∧ 0 ≤ c) ∧ (putOk e 1 = true ∧ 0 ≤ e) ∧ (putOk n 8 = true ∧ 0 ≤ n) := by
  have := slotOk_in h
  refine ⟨⟨putOk_of (by omega) (by decide) (by decide) ?_, by omega⟩, ⟨putOk_of (by omega) (by decide) (by decide) ?_, by omega⟩, ⟨putOk_of (by omega) (by decide) (by decide) ?_, by omega⟩⟩
  · show _ < 16777216; omega
  · show _ < 256; omega
  · show _ < 18446744073709551616; omega
theorem slot_flds {id c e n : Int} (rest : ByteArray) (h : slotOk id c e = true) (n0 : 0 ≤ n) (n1 : n ≤ 18446744073709551615) (s : ByteArray) (hs : slotB c e n ++ rest = s) : tsC s = c ∧ tsE s = e ∧ tsN s = n := by
  obtain ⟨p0, p1, p2⟩ := slotOk_put h n0 n1
  have q0 := fun rest => pt_n (n := c) (k := 3) rest p0.2 p0.1
  have q1 := fun rest => pt_n (n := e) (k := 1) rest p1.2 p1.1
  have q2 := fun rest => pt_n (n := n) (k := 8) rest p2.2 p2.1
  have e : s = Str (putL c 3) ++ (Str (putL e 1) ++ (Str (putL n 8) ++ rest)) := by
    rw [← hs]; unfold slotB; simp only [ByteArray.append_assoc]
  unfold tsC tsE tsN
  rw [e, (q0 _).2, (q1 _).2]
  exact ⟨(q0 _).1, (q1 _).1, (q2 _).1⟩
theorem slotB_size {id c e n : Int} (h : slotOk id c e = true) (n0 : 0 ≤ n) (n1 : n ≤ 18446744073709551615) : (slotB c e n).size = 12 := by
  obtain ⟨p0, p1, p2⟩ := slotOk_put h n0 n1
  have := pt_size p0.1; have := pt_size p1.1; have := pt_size p2.1
  unfold slotB
  simp only [ByteArray.size_append]
  omega
theorem tsN_in (s : ByteArray) : 0 ≤ tsN s ∧ tsN s ≤ 18446744073709551615 := by
  have h := pt_room (takeR (takeR s 3) 1) (k := 8) (by decide) (by decide)
  have h2 := putOk_lt h.2 h.1
  have e : (256 : Nat) ^ (8 : Int).toNat = 18446744073709551616 := by decide
  rw [e] at h2
  unfold tsN
  omega
theorem tsOk_and {id : Int} {s : ByteArray} (h : tsOk id s = true) : slotOk id (tsC s) (tsE s) = true ∧ slotB (tsC s) (tsE s) (tsN s) = s := by
  simpa only [tsOk, slotW, Bool.and_eq_true, decide_eq_true_eq] using h
theorem tsOk_size {id : Int} {s : ByteArray} (h : tsOk id s = true) : s.size = 12 := by
  obtain ⟨h1, h2⟩ := tsOk_and h
  rw [← h2]; exact slotB_size h1 (tsN_in s).1 (tsN_in s).2
theorem slot_again_ok {id c e n : Int} (h : slotOk id c e = true) (n0 : 0 ≤ n) (n1 : n ≤ 18446744073709551615) : tsOk id (slotB c e n) = true := by
  obtain ⟨e0, e1, e2⟩ := slot_flds ⟨#[]⟩ h n0 n1 (slotB c e n) (append_empty _)
  unfold tsOk slotW
  rw [e0, e1, e2, h]
  simp
/-- Principals. -/
theorem ownerOk_put {id li ha : Int} {name : ByteArray} (h : ownerOk id name li ha = true) : (putOk li 2 = true ∧ 0 ≤ li) ∧ (putOk ha 2 = true ∧ 0 ≤ ha) ∧ name.size ≤ 32 ∧ rightB name = true := by
  unfold ownerOk at h
  simp only [Bool.and_eq_true, inB_iff] at h
  obtain ⟨⟨⟨⟨h0, h1⟩, h2⟩, h3⟩, h4⟩ := h
  refine ⟨⟨putOk_of (by omega) (by decide) (by decide) ?_, by omega⟩, ⟨putOk_of (by omega) (by decide) (by decide) ?_, by omega⟩, (right_all name h1).1, h1⟩
  · show _ < 65536; omega
  · show _ < 65536; omega
theorem owner_flds {id li ha : Int} {name : ByteArray} (rest : ByteArray) (h : ownerOk id name li ha = true) (s : ByteArray) (hs : ownerB name li ha ++ rest = s) : towner0 s = li ∧ towner1 s = ha ∧ towner2 s = name := by
  obtain ⟨p0, p1, p2, _⟩ := ownerOk_put h
  have q0 := fun rest => pt_n (n := li) (k := 2) rest p0.2 p0.1
  have q1 := fun rest => pt_n (n := ha) (k := 2) rest p1.2 p1.1
  have e : s = Str (putL li 2) ++ (Str (putL ha 2) ++ (textL name ++ rest)) := by
    rw [← hs]; unfold ownerB; simp only [ByteArray.append_assoc]
  unfold towner0 towner1 towner2
  rw [e, (q0 _).2, (q1 _).2]
  exact ⟨(q0 _).1, (q1 _).1, (tt_text name rest (by omega)).1⟩
theorem ownerB_size {id li ha : Int} {name : ByteArray} (h : ownerOk id name li ha = true) : (ownerB name li ha).size = 5 + name.size ∧ name.size ≤ 32 := by
  obtain ⟨p0, p1, p2, _⟩ := ownerOk_put h
  have := pt_size p0.1; have := pt_size p1.1
  have := textL_size1 name (by omega)
  unfold ownerB
  simp only [ByteArray.size_append]
  omega
theorem townerOk_and {id : Int} {s : ByteArray} (h : townerOk id s = true) : ownerOk id (towner2 s) (towner0 s) (towner1 s) = true ∧ ownerB (towner2 s) (towner0 s) (towner1 s) = s := by
  simpa only [townerOk, ownerW, Bool.and_eq_true, decide_eq_true_eq] using h
theorem owner_again_ok {id li ha : Int} {name : ByteArray} (h : ownerOk id name li ha = true) : townerOk id (ownerB name li ha) = true := by
  obtain ⟨e0, e1, e2⟩ := owner_flds ⟨#[]⟩ h (ownerB name li ha) (append_empty _)
  unfold townerOk ownerW
  rw [e0, e1, e2, h]
  simp
/-- With something behind it, or without its end, it is none. -/
theorem owner_part {id li ha : Int} {name : ByteArray} (h : ownerOk id name li ha = true) (s t : ByteArray) (hs : s ++ t = ownerB name li ha) (ht : 0 < t.size) : townerOk id s = false := by
  cases hk : townerOk id s
  · rfl
  · exfalso
    obtain ⟨h1, h2⟩ := townerOk_and hk
    obtain ⟨a0, a1, a2⟩ := owner_flds ⟨#[]⟩ h (ownerB name li ha) (append_empty _)
    obtain ⟨b0, b1, b2⟩ := owner_flds t h1 (ownerB name li ha) (by rw [h2]; exact hs)
    rw [← b0, ← b1, ← b2, a0, a1, a2] at h2
    have := congrArg ByteArray.size hs
    rw [h2, ByteArray.size_append] at this
    omega
theorem owner_more {id li ha : Int} {name : ByteArray} (h : ownerOk id name li ha = true) (more : ByteArray) (hm : more ≠ ⟨#[]⟩) : townerOk id (ownerB name li ha ++ more) = false := by
  cases hk : townerOk id (ownerB name li ha ++ more)
  · rfl
  · exfalso
    obtain ⟨h1, h2⟩ := townerOk_and hk
    obtain ⟨b0, b1, b2⟩ := owner_flds more h _ rfl
    rw [b0, b1, b2] at h2
    exact hm (append_none h2)
theorem cap_more {id pa ob ow ri ba de ex cu : Int} (rv : Bool) (h : capOk id pa ob ow ri ba de ex cu = true) (more : ByteArray) (hm : more ≠ ⟨#[]⟩) : tcapOk id (capB pa ob ow ri ba de ex cu rv ++ more) = false := by
  cases hk : tcapOk id (capB pa ob ow ri ba de ex cu rv ++ more)
  · rfl
  · exfalso
    have h1 := tcapOk_size hk
    rw [ByteArray.size_append, capB_size rv h] at h1
    exact hm (empty_of_size (by omega))
theorem slot_more {id c e n : Int} (h : slotOk id c e = true) (n0 : 0 ≤ n) (n1 : n ≤ 18446744073709551615) (more : ByteArray) (hm : more ≠ ⟨#[]⟩) : tsOk id (slotB c e n ++ more) = false := by
  cases hk : tsOk id (slotB c e n ++ more)
  · rfl
  · exfalso
    have h1 := tsOk_size hk
    rw [ByteArray.size_append, slotB_size h n0 n1] at h1
    exact hm (empty_of_size (by omega))
theorem cap_cut {id pa ob ow ri ba de ex cu : Int} (rv : Bool) (h : capOk id pa ob ow ri ba de ex cu = true) : tcapOk id ((capB pa ob ow ri ba de ex cu rv).extract 0 23) = false := by
  cases hk : tcapOk id ((capB pa ob ow ri ba de ex cu rv).extract 0 23)
  · rfl
  · exfalso
    have h1 := tcapOk_size hk
    rw [ByteArray.size_extract, capB_size rv h] at h1
    omega
theorem slot_cut {id c e n : Int} (h : slotOk id c e = true) (n0 : 0 ≤ n) (n1 : n ≤ 18446744073709551615) : tsOk id ((slotB c e n).extract 0 11) = false := by
  cases hk : tsOk id ((slotB c e n).extract 0 11)
  · rfl
  · exfalso
    have h1 := tsOk_size hk
    rw [ByteArray.size_extract, slotB_size h n0 n1] at h1
    omega
theorem cut_join (s : ByteArray) (n : Nat) : s.extract 0 n ++ s.extract n s.size = s := by
  have := take_extract s n
  have e : s.extract 0 n = Str (s.data.toList.take n) := by
    apply eq_of_data; rw [extract_list, Str_list, List.drop_zero, Nat.sub_zero]
  rw [e]; exact this
theorem owner_cut {id li ha : Int} {name : ByteArray} (h : ownerOk id name li ha = true) (n : Nat) (hn : n + 1 = (ownerB name li ha).size) : townerOk id ((ownerB name li ha).extract 0 n) = false :=
  owner_part h _ _ (cut_join _ n) (by rw [ByteArray.size_extract]; omega)
end Go.Proofs.Ytlbnakoaflladaa
