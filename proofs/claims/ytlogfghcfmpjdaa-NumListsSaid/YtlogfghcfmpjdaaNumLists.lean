import Derived.Test.YtlogfghcfmpjdaaNumBack
namespace Go.Proofs.Ytlogfghcfmpjdaa
open Go.RowKit

def cutL (s : ByteArray) : ByteArray := s.extract 0 (min s.size 255)
theorem cutL_size (s : ByteArray) : (cutL s).size ≤ 255 := by simp [cutL]; omega
/-- m texts from place i on, written one behind the other. -/
def cat (ss : List ByteArray) : Nat → Nat → List UInt8
  | _, 0 => []
  | i, m + 1 => (textL (cutL (ss.getD i ByteArray.empty))).data.toList ++ cat ss (i + 1) m
theorem cat_snoc (ss : List ByteArray) (i m : Nat) : cat ss i (m + 1) = cat ss i m ++ (textL (cutL (ss.getD (i + m) ByteArray.empty))).data.toList := by
  induction m generalizing i with
  | zero => simp [cat]
  | succ m ih =>
    rw [cat, ih (i + 1), cat, List.append_assoc, show i + 1 + m = i + (m + 1) by omega]
theorem cat_length (ss : List ByteArray) (i m : Nat) : (cat ss i m).length ≤ 256 * m := by
  induction m generalizing i with
  | zero => simp [cat]
  | succ m ih =>
    have := ih (i + 1)
    have h := textL_size _ (cutL_size (ss.getD i ByteArray.empty))
    have h' := cutL_size (ss.getD i ByteArray.empty)
    rw [cat, List.length_append, size_list]
    omega

theorem cutL_eq (s : ByteArray) : ∃ m : Nat, m ≤ s.size ∧ (if 255 < (s.size : Int) then (255 : Int) else (s.size : Int)) = (m : Int) ∧
    ∀ W, (Instr.slice 9 (.string s) none (some (.int .i64 (m : Int))) none).run Try.prog W = .ok (.string (cutL s)) W := by
  refine ⟨min s.size 255, by omega, by split <;> omega, fun W => ?_⟩
  rw [run_slice_string_h W 9 s Try.underlying9 .i64 _ (by omega) (by omega)]
  rfl
theorem cat_text (ss : List ByteArray) (i m : Nat) : Str (cat ss i (m + 1)) = textL (cutL (ss.getD i ByteArray.empty)) ++ Str (cat ss (i + 1) m) := by
  apply eq_of_data
  rw [append_list, Str_list, Str_list, cat]
theorem cat_tt (ss : List ByteArray) (i m : Nat) : ttS (Str (cat ss i (m + 1))) = cutL (ss.getD i ByteArray.empty) ∧ ttR (Str (cat ss i (m + 1))) = Str (cat ss (i + 1) m) ∧ ttE (Str (cat ss i (m + 1))) = 0 := by
  rw [cat_text]
  exact tt_text _ _ (cutL_size _)

set_option maxHeartbeats 1000000 in
theorem numLists_walk (b off len cap n : Nat) (ss : List ByteArray) (w : World) (hlc : len ≤ cap) (_hcm : cap ≤ 9223372036854775807) (hb : b < w.heap.size) (hc : ∀ i, i < cap → w.cell? ⟨b, off + i, none⟩ = some (.string (ss.getD i ByteArray.empty)))
    (hn1 : n ≤ len) (hn2 : n ≤ 10) (hn3 : len ≤ n ∨ 10 ≤ n) :
    Calls Try.prog 9 #[.slice (some ⟨b, off, none⟩) len cap] w fun e w' => e = .returned (.bool true) ∧ Below w.heap.size w w' := by
  have HC := Lib.hid hc
  clear hc
  go_enter Try.func9, Try.ntmps9
  go_wp2_with fail
  refine (examples_any _).mono ?_
  rintro e w1 ⟨rfl, bb⟩
  go_wp2_with fail
  go_loopw [4, 5, 6, 7] (fun all i _ _ wr => ∃ k : Nat, k ≤ n ∧ i = .int .i64 k ∧ all = .string (Str (cat ss 0 k)) ∧ Below w.heap.size w wr) (fun _ i _ _ _ => len - (intOf i).toNat)
  case atStart => exact ⟨0, Nat.zero_le _, rfl, rfl, bb⟩
  case round =>
    obtain ⟨k, hk, rfl, rfl, hbw⟩ := hrel
    by_cases hkn : k < n
    · have hlt : (k : Int) < len := by omega
      have h10 : (k : Int) < 10 := by omega
      have hcell : wr.cell? ⟨b, off + k, none⟩ = some (.string (ss.getD k ByteArray.empty)) := (hbw.cell hb).trans (HC.out k (by omega))
      have SN := Lib.hid (cat_snoc ss 0 k)
      rw [Nat.zero_add] at SN
      have hsz := cat_length ss 0 k
      generalize ss.getD k ByteArray.empty = s at *
      obtain ⟨m, _, hif, hsl⟩ := cutL_eq s
      have hcs := cutL_size s
      have FIN := Lib.hid (show Str (cat ss 0 k) ++ textL (cutL s) = Str (cat ss 0 (k + 1)) by rw [Str_append, SN.out])
      have TE := Lib.hid (textE_0 _ hcs)
      have hts : (textL (cutL s)).size ≤ 256 := by rw [textL_size _ hcs]; omega
      have hcz : (Str (cat ss 0 k)).size ≤ 2560 := by rw [Str_size]; omega
      clear SN hsz hcs
      generalize hT : textL (cutL s) = t at *
      have TL := Lib.hid hT
      clear hT
      go_wp2_with fail
      have hbz : b < wr.heap.size := Nat.lt_of_lt_of_le hb hbw.size
      go_region_held3 (fun w' => w'.cell? ⟨b, off + k, none⟩ = some (.string s)) (first | go_keep | (rw [b4.cell (by simpa using hbz)]; go_keep)) ((first | (go_at_call 13; refine (text_any _ _).mono ?_; rw [TE.out, TL.out]; rintro e w4 ⟨rfl, b4⟩)))
      have hb2 : Below w.heap.size w w4 := chain hbw.drew b4
      clear b4 hbw hcell hif hsl hbz
      go_wp2_with fail
      go_roundw
      case rel => exact ⟨k + 1, by omega, by go_num, by rw [FIN.out], hb2⟩
      case measure => simp [intOf]; omega
    · obtain rfl : k = n := by omega
      clear hkn hk
      have hstop : (k : Int) < len → 10 ≤ (k : Int) := by omega
      clear hn3
      by_cases hlt : (k : Int) < len
      all_goals
        first | (have h10 := hstop hlt; clear hstop) | clear hstop
        go_wp2_with fail
        go_loopw [4, 8, 9, 10, 11] (fun all i _ _ _ wr => ∃ j m : Nat, j + m = k ∧ i = .int .i64 j ∧ all = .string (Str (cat ss j m)) ∧ Below w.heap.size w wr) (fun _ i _ _ _ _ => len - (intOf i).toNat)
        case atStart => exact ⟨0, k, by omega, rfl, rfl, hbw⟩
        case round =>
          obtain ⟨j, m, hjm, rfl, rfl, hbj⟩ := hrel
          rcases m with _ | m
          · obtain rfl : j = k := by omega
            clear hjm
            have he : (Str (cat ss j 0)).toList = [] := by rw [toList_data, Str_list]; rfl
            go_wp2_with fail
            go_ret
            exact ⟨ret_true (by simp), hbj⟩
          · have hlt1 : (j : Int) < len := by omega
            have h101 : (j : Int) < 10 := by omega
            have hcell : wr.cell? ⟨b, off + j, none⟩ = some (.string (ss.getD j ByteArray.empty)) := (hbj.cell hb).trans (HC.out j (by omega))
            have TT := Lib.hid (cat_tt ss j m)
            have hz := cat_length ss j (m + 1)
            have hz' : (Str (cat ss j (m + 1))).size ≤ 2560 := by rw [Str_size]; omega
            clear hz
            generalize ss.getD j ByteArray.empty = s at *
            obtain ⟨q, _, hif, hsl⟩ := cutL_eq s
            generalize cutL s = c at *
            have JM := Lib.hid hjm
            clear hjm
            go_wp2_with fail
            refine (takeText_any _ _ (by omega)).mono ?_
            rw [TT.out.1, TT.out.2.1, TT.out.2.2]
            rintro e w4 ⟨rfl, b4⟩
            have hcell4 : w4.cell? ⟨b, off + j, none⟩ = some (.string s) := (b4.cell (Nat.lt_of_lt_of_le hb hbj.size)).trans hcell
            have hb2 := chain hbj b4
            clear hcell b4 hbj
            go_wp2_with fail
            go_quiet (fail)
            go_wp2_with fail
            go_roundw
            case rel => exact ⟨j + 1, m, by have := JM.out; omega, by go_num, rfl, drewN_below hb2 _⟩
            case measure => simp [intOf]; omega

set_option maxHeartbeats 400000 in
theorem numLists_zero (a : Option Addr) (cap : Nat) (w : World) :
    Calls Try.prog 9 #[.slice a 0 cap] w fun e w' => e = .returned (.bool true) ∧ Below w.heap.size w w' := by
  have he : (⟨#[]⟩ : ByteArray).toList = [] := by rw [toList_data]
  go_enter Try.func9, Try.ntmps9
  go_wp2_with fail
  refine (examples_any _).mono ?_
  rintro e w1 ⟨rfl, bb⟩
  go_wp2_with fail
  go_loopw [4, 5, 6, 7] (fun all i _ _ wr => i = .int .i64 0 ∧ all = .string ⟨#[]⟩ ∧ Below w.heap.size w wr) (fun _ _ _ _ _ => 0)
  case atStart => exact ⟨rfl, rfl, bb⟩
  case round =>
    obtain ⟨rfl, rfl, hbw⟩ := hrel
    go_wp2_with fail
    go_loopw [4, 8, 9, 10, 11] (fun all i _ _ _ wr => i = .int .i64 0 ∧ all = .string ⟨#[]⟩ ∧ Below w.heap.size w wr) (fun _ _ _ _ _ _ => 0)
    case atStart => exact ⟨rfl, rfl, hbw⟩
    case round =>
      obtain ⟨rfl, rfl, hbj⟩ := hrel
      go_wp2_with fail
      go_ret
      exact ⟨ret_true (by simp), hbj⟩

theorem numLists_law (a0 : Option Addr) (len0 cap0 : Nat) (ss0 : List ByteArray) (w : World) (w0 : IsStrs w a0 len0 cap0 ss0) :
    Calls Try.prog 9 #[.slice a0 len0 cap0] w fun e w' => e = .returned (.bool true) ∧ Below w.heap.size w w' := by
  rcases w0 with ⟨rfl, rfl, rfl, rfl⟩ | ⟨x, rfl, hl, hm, hz, hc, _⟩
  · exact numLists_zero _ _ _
  · rcases Nat.eq_zero_or_pos len0 with rfl | h0
    · exact numLists_zero _ _ _
    · obtain ⟨b, off, spot⟩ := x
      have hc0 := hc 0 (by omega)
      have hspot : spot = none := by simpa [Addr.add] using World.cell?_spot hc0
      subst hspot
      have hlt := World.block_lt_of_cell? w _ hc0
      refine numLists_walk b off len0 cap0 (min len0 10) ss0 w hl hm hlt ?_ (by omega) (by omega) (by omega)
      intro i hi
      have := hc i (by omega)
      rwa [show (⟨b, off, none⟩ : Addr).add i = ⟨b, off + i, none⟩ by unfold Addr.add; split <;> simp_all] at this
end Go.Proofs.Ytlogfghcfmpjdaa
