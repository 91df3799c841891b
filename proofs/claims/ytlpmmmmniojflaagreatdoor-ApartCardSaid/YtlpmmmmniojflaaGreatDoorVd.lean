/- The texts that the statements write. -/
import Derived.Test.YtlpmmmmniojflaaGreatDoorQ44
set_option linter.unusedVariables false
set_option linter.unusedSimpArgs false
namespace Go.Proofs.YtlpmmmmniojflaaGreatDoor
theorem cg_n (x : List UInt8) (n : Nat) (h : valN x = n) (hn : n ≤ 9223372036854775807) : CG 3 [tNum x] (retA (vI n)) := by
  have := cg_num (t := tNum x) rfl (by show valN x ≤ _; omega)
  have e : valN (tNum x).x = n := h
  rw [e] at this
  exact this
end Go.Proofs.YtlpmmmmniojflaaGreatDoor
