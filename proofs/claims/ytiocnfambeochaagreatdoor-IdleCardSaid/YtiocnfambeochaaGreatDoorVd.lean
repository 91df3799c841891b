/- The texts that the statements write. -/
import Derived.Test.YtiocnfambeochaaGreatDoorQ47
set_option linter.unusedVariables false
set_option linter.unusedSimpArgs false
namespace Go.Proofs.YtiocnfambeochaaGreatDoor

theorem cg_n (x : List UInt8) (n : Nat) (h : valN x = n) (hn : n ≤ 9223372036854775807) : CG 3 [tNum x] (retA (vI n)) := by
  have := cg_num (t := tNum x) rfl (by show valN x ≤ _; omega)
  have e : valN (tNum x).x = n := h
  rw [e] at this
  exact this
theorem cg_up2 {a : List Tk} {d : Beh} (h : CG 3 a d) : CG 2 a d := cg_lift (by omega) h
/-- SUM of two atoms. -/
theorem cg_plus {a b : List Tk} {o : Tk} {da db : Beh} (ho : o.k ∈ signs 1) (ha : CG 3 a da) (hb : CG 3 b db) : CG 0 (a ++ o :: b) (binA (signOp o.k) da db) := cg_lift (by omega) (cg_two (lv := 1) (by omega) ho (cg_up2 ha) (cg_up2 hb))
def rdc (c : Nat) : Beh := readA ⟨c, false⟩
end Go.Proofs.YtiocnfambeochaaGreatDoor
