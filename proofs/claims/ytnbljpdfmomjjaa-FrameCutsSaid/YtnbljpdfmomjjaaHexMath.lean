/-
  Digits.
-/
import Derived.Test.YtnbljpdfmomjjaaBuf
import Derived.Test.YtnbljpdfmomjjaaOwn
import Derived.Laws.MakeOwn
import Derived.Deep.DeepAppendRoom
import Derived.Deep.RegionLaw
import Derived.BigRegion
namespace Go.Proofs.Ytnbljpdfmomjjaa
open Go.RowKit
set_option linter.unusedVariables false

/-- A digit, and the digits of bytes. -/
def digN (d : Nat) : UInt8 := if d < 10 then UInt8.ofNat (48 + d) else UInt8.ofNat (87 + d)
def hex2 (b : UInt8) : List UInt8 := [digN (b.toNat / 16), digN (b.toNat % 16)]
def hexL (l : List UInt8) : List UInt8 := l.flatMap hex2
theorem hexL_length (l : List UInt8) : (hexL l).length = 2 * l.length := by
  induction l with
  | nil => rfl
  | cons b l ih => unfold hexL at *; rw [List.flatMap_cons, List.length_append, ih, List.length_cons]; simp [hex2]; omega
theorem hexL_take (l : List UInt8) (k : Nat) (h : k < l.length) : hexL (l.take (k + 1)) = hexL (l.take k) ++ hex2 l[k] := by
  unfold hexL
  rw [List.take_succ_eq_append_getElem h, List.flatMap_append]
  simp
theorem hexL_append (a b : List UInt8) : hexL (a ++ b) = hexL a ++ hexL b := by unfold hexL; rw [List.flatMap_append]
theorem and15 (b : UInt8) : bits .and .u8 (b.toNat : Int) 15 = ((b.toNat % 16 : Nat) : Int) := by
  have h : ∀ i : Fin 256, bits .and .u8 ((i.val : Nat) : Int) 15 = ((i.val % 16 : Nat) : Int) := by decide +kernel
  exact h ⟨b.toNat, b.toNat_lt⟩
def vby (b : UInt8) : Value := .int .u8 (b.toNat : Int)
/-- Where there is room, at a step of a region that draws. -/
theorem step_append_spare {P : Program} {ops : Array Oper} {o : Oper} {a : Act} {w : World} {K : Act → World → Prop} {Q : Exit → Act → World → Prop} {E : Prop} (hgd : o.guard = none) (s x : Operand) (t : TypeId)
    (ho : o.op = .call { callee := .builtin .append, args := #[s, x], argTypes := #[t, t] })
    (base : Nat) (e : TypeId) (i : TypeInfo) (size : Nat) (ht : P.underlying t = some (.slice e)) (hi : P.info? e = some i) (hsize : i.size = size)
    (g n cap : Nat) (xs : List Value) (hs : a.eval s = .slice (some ⟨g, 0, none⟩) n cap) (hown : w.ownsRow base e size (.slice (some ⟨g, 0, none⟩) n cap) n xs)
    (ad : Addr) (m c : Nat) (news : List Value) (hx : a.eval x = .slice (some ad) m c) (hl : news.length = m * size) (hnews : ∀ j u, news[j]? = some u → w.cell? (ad.add j) = some u) (h1 : ∀ u ∈ news, u.oneCell' = true)
    (hroom : n + m ≤ cap)
    (h : ∀ w', w'.ownsRow base e size (.slice (some ⟨g, 0, none⟩) (n + m) cap) (n + m) (xs ++ news) → w.grownBy w' (some g) → K (a.put o.dst (.slice (some ⟨g, 0, none⟩) (n + m) cap)) w') :
    if Region.wanted o (yielded ops a.tmps) = true then Oper.wp P o a w K Q else E := by
  have hw : Region.wanted o (yielded ops a.tmps) = true := by simp [Region.wanted, hgd]
  rw [if_pos hw]
  exact wp_append_own_spare w s x t ho base e i size ht hi hsize g n cap xs hs hown ad m c news hx hl hnews h1 hroom h
theorem two_cells (w : World) (d1 d2 : UInt8) (T : TypeId) : ∀ j u, [vby d1, vby d2][j]? = some u → (w.alloc (.cells #[vby d1, vby d2] T)).cell? ((⟨w.heap.size, 0, none⟩ : Addr).add j) = some u := by
  intro j u hj
  rw [addr_add, World.cell?_alloc_new]
  match j, hj with
  | 0, hj => simpa using hj
  | 1, hj => simpa using hj
theorem info_byte : (Try.prog.info? 5).map (fun i => (i.zero, i.size, i.bytes)) = some (some (.int .u8 0), 1, 1) := by kernel_rfl
/-- The call's own row grows, at a step of a region that draws. -/
theorem step_append_own {P : Program} {ops : Array Oper} {o : Oper} {a : Act} {w : World} {K : Act → World → Prop} {Q : Exit → Act → World → Prop} {E : Prop} (hgd : o.guard = none) (s x : Operand) (t : TypeId)
    (ho : o.op = .call { callee := .builtin .append, args := #[s, x], argTypes := #[t, t] })
    (base : Nat) (e : TypeId) (i : TypeInfo) (z : Value) (size bytes : Nat) (ht : P.underlying t = some (.slice e)) (hi : P.info? e = some i) (hz : i.zero = some z)
    (hsize : i.size = size) (hby : i.bytes = bytes) (hzs : z.cells.size = size) (hsz : 0 < size)
    (v : Value) (n : Nat) (xs : List Value) (hs : a.eval s = v) (hown : w.ownsRow base e size v n xs)
    (ad : Addr) (m c : Nat) (news : List Value) (hx : a.eval x = .slice (some ad) m c) (hl : news.length = m * size) (hnews : ∀ j u, news[j]? = some u → w.cell? (ad.add j) = some u) (h1 : ∀ u ∈ news, u.oneCell' = true)
    (h63 : n + m ≤ maxLen) (hbytes : (n + m) * bytes ≤ 140737488355328) (hbase : base ≤ w.heap.size)
    (h : ∀ v' w', w'.ownsRow base e size v' (n + m) (xs ++ news) → w.grownBy w' v.ownBlock → (v' = .slice none 0 0 ↔ v = .slice none 0 0 ∧ m = 0) → K (a.put o.dst v') w') :
    if Region.wanted o (yielded ops a.tmps) = true then Oper.wp P o a w K Q else E := by
  have hw : Region.wanted o (yielded ops a.tmps) = true := by simp [Region.wanted, hgd]
  rw [if_pos hw]
  exact wp_append_own w s x t ho base e i z size bytes ht hi hz hsize hby hzs hsz v n xs hs hown ad m c news hx hl hnews h1 h63 hbytes hbase h
/-- The digits of a text. -/
def hexB (s : ByteArray) : ByteArray := Str (hexL s.data.toList)
theorem hexB_size (s : ByteArray) : (hexB s).size = 2 * s.size := by
  unfold hexB; rw [Str_size, hexL_length]; simp
theorem hexB_append (a b : ByteArray) : hexB (a ++ b) = hexB a ++ hexB b := by
  unfold hexB
  rw [Str_append, Str_list, append_list, hexL_append]
/-- What a round of the digits' loop meets of a byte and of the table of digits. -/
theorem dig_round (s S : ByteArray) (hT : S.size = 16 ∧ ∀ i : Fin 16, S.data.getD i.val 0 = digN i.val) (k : Nat) (hlt : k < s.size) :
    ∃ (x q r : Nat) (d1 d2 : UInt8), s[k].toNat = x ∧ x < 256 ∧ (x : Int) / 16 = (q : Int) ∧ (x : Int) % 16 = (r : Int) ∧ q < S.size ∧ r < S.size ∧ (∀ h : q < S.size, S[q] = d1) ∧ (∀ h : r < S.size, S[r] = d2) ∧
      bits .and .u8 (x : Int) 15 = (r : Int) ∧ hexL (s.data.toList.take (k + 1)) = hexL (s.data.toList.take k) ++ [d1, d2] := by
  have h256 := s[k].toNat_lt
  have hb1 : s[k].toNat / 16 < S.size := by omega
  have hb2 : s[k].toNat % 16 < S.size := by omega
  refine ⟨_, s[k].toNat / 16, s[k].toNat % 16, digN (s[k].toNat / 16), digN (s[k].toNat % 16), rfl, h256, by omega, by omega, hb1, hb2, fun _ => ?_, fun _ => ?_, and15 s[k], hexL_take _ _ (by simpa using hlt)⟩
  · have := hT.2 ⟨s[k].toNat / 16, by omega⟩
    rw [Array.getD_eq_getD_getElem?, Array.getElem?_eq_getElem (by simpa using hb1)] at this
    exact this
  · have := hT.2 ⟨s[k].toNat % 16, by omega⟩
    rw [Array.getD_eq_getD_getElem?, Array.getElem?_eq_getElem (by simpa using hb2)] at this
    exact this
end Go.Proofs.Ytnbljpdfmomjjaa
