/-
  Package proto: each request is the same as itself, as an interface's value.
-/
import Derived.Test.YtemhlhcaahaecaaSup
import Derived.Laws.StructEq
namespace Go.Proofs.Ytemhlhcaahaecaa
open Go.RowKit
set_option linter.unusedVariables false
set_option linter.unusedSimpArgs false
theorem neq_same (P : Program) (w : World) {t tx : TypeId} {ms : Array (String × TypeId)} (v : Value)
    (ht : P.underlying t = some (.interface ms)) (hc : (P.info? tx).map (·.comparable) = some true) (h : (Op.equalIn 9999 tx v v).run P w = .ok true w) :
    (binOp .neq t (.iface tx v) (.iface tx v)).run P w = .ok (.bool false) w := by
  cases hi : P.info? tx with
  | none => simp [hi] at hc
  | some i =>
    have hcc : i.comparable = true := by simpa [hi] using hc
    have h2 : (Op.equalIn (9999 + 1) t (.iface tx v) (.iface tx v)).run P w = .ok true w := by
      rw [Op.equalIn]
      simp [run_underlying ht, typeInfo, hi, hcc, h]
    simp only [binOp]
    simp only [Op.equal, Op.maxDepth]
    simp [h2]
theorem same_Hello (nm : ByteArray) (w : World) : (binOp .neq 20 (.iface 64 (.agg #[.string nm])) (.iface 64 (.agg #[.string nm]))).run Try.prog w = .ok (.bool false) w := by
  refine neq_same _ w _ Try.underlying20 (by kernel_rfl) ?_
  simp [go_sem, run_underlying, Try.underlying9]
theorem same_Register (nm : ByteArray) (li : Int) (w : World) : (binOp .neq 20 (.iface 51 (.agg #[.string nm, .int .i64 li])) (.iface 51 (.agg #[.string nm, .int .i64 li]))).run Try.prog w = .ok (.bool false) w := by
  refine neq_same _ w _ Try.underlying20 (by kernel_rfl) ?_
  simp [go_sem, run_underlying, Try.underlying9]
theorem same_Mint (ob : Int) (ri : Int) (ba : Int) (ex : Int) (w : World) : (binOp .neq 20 (.iface 53 (.agg #[.int .i64 ob, .int .i64 ri, .int .i64 ba, .int .i64 ex])) (.iface 53 (.agg #[.int .i64 ob, .int .i64 ri, .int .i64 ba, .int .i64 ex]))).run Try.prog w = .ok (.bool false) w := by
  refine neq_same _ w _ Try.underlying20 (by kernel_rfl) ?_
  simp [go_sem, run_underlying, Try.underlying9]
theorem same_Derive (hd : ByteArray) (nm : ByteArray) (ri : Int) (ba : Int) (ex : Int) (w : World) : (binOp .neq 20 (.iface 83 (.agg #[.string hd, .string nm, .int .i64 ri, .int .i64 ba, .int .i64 ex])) (.iface 83 (.agg #[.string hd, .string nm, .int .i64 ri, .int .i64 ba, .int .i64 ex]))).run Try.prog w = .ok (.bool false) w := by
  refine neq_same _ w _ Try.underlying20 (by kernel_rfl) ?_
  simp [go_sem, run_underlying, Try.underlying9]
theorem same_Renew (hd : ByteArray) (ex : Int) (w : World) : (binOp .neq 20 (.iface 62 (.agg #[.string hd, .int .i64 ex])) (.iface 62 (.agg #[.string hd, .int .i64 ex]))).run Try.prog w = .ok (.bool false) w := by
  refine neq_same _ w _ Try.underlying20 (by kernel_rfl) ?_
  simp [go_sem, run_underlying, Try.underlying9]
theorem same_Validate (hd : ByteArray) (w : World) : (binOp .neq 20 (.iface 55 (.agg #[.string hd])) (.iface 55 (.agg #[.string hd]))).run Try.prog w = .ok (.bool false) w := by
  refine neq_same _ w _ Try.underlying20 (by kernel_rfl) ?_
  simp [go_sem, run_underlying, Try.underlying9]
theorem same_Invoke (hd : ByteArray) (rt : Int) (w : World) : (binOp .neq 20 (.iface 58 (.agg #[.string hd, .int .i32 rt])) (.iface 58 (.agg #[.string hd, .int .i32 rt]))).run Try.prog w = .ok (.bool false) w := by
  refine neq_same _ w _ Try.underlying20 (by kernel_rfl) ?_
  simp [go_sem, run_underlying, Try.underlying9]
theorem same_Revoke (hd : ByteArray) (sf : Bool) (w : World) : (binOp .neq 20 (.iface 85 (.agg #[.string hd, .bool sf])) (.iface 85 (.agg #[.string hd, .bool sf]))).run Try.prog w = .ok (.bool false) w := by
  refine neq_same _ w _ Try.underlying20 (by kernel_rfl) ?_
  simp [go_sem, run_underlying, Try.underlying9]
theorem same_Delete (hd : ByteArray) (w : World) : (binOp .neq 20 (.iface 86 (.agg #[.string hd])) (.iface 86 (.agg #[.string hd]))).run Try.prog w = .ok (.bool false) w := by
  refine neq_same _ w _ Try.underlying20 (by kernel_rfl) ?_
  simp [go_sem, run_underlying, Try.underlying9]
theorem same_Move (hd : ByteArray) (to : ByteArray) (w : World) : (binOp .neq 20 (.iface 88 (.agg #[.string hd, .string to])) (.iface 88 (.agg #[.string hd, .string to]))).run Try.prog w = .ok (.bool false) w := by
  refine neq_same _ w _ Try.underlying20 (by kernel_rfl) ?_
  simp [go_sem, run_underlying, Try.underlying9]
theorem same_List (hd : ByteArray) (fr : Int) (mo : Int) (w : World) : (binOp .neq 20 (.iface 60 (.agg #[.string hd, .int .i64 fr, .int .i64 mo])) (.iface 60 (.agg #[.string hd, .int .i64 fr, .int .i64 mo]))).run Try.prog w = .ok (.bool false) w := by
  refine neq_same _ w _ Try.underlying20 (by kernel_rfl) ?_
  simp [go_sem, run_underlying, Try.underlying9]
theorem same_Quota  (w : World) : (binOp .neq 20 (.iface 68 (.agg #[])) (.iface 68 (.agg #[]))).run Try.prog w = .ok (.bool false) w := by
  refine neq_same _ w _ Try.underlying20 (by kernel_rfl) ?_
  simp [go_sem, run_underlying, Try.underlying9]
theorem same_Rotate  (w : World) : (binOp .neq 20 (.iface 89 (.agg #[])) (.iface 89 (.agg #[]))).run Try.prog w = .ok (.bool false) w := by
  refine neq_same _ w _ Try.underlying20 (by kernel_rfl) ?_
  simp [go_sem, run_underlying, Try.underlying9]
end Go.Proofs.Ytemhlhcaahaecaa
