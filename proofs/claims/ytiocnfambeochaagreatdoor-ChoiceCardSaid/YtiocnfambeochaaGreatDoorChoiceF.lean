/- The closed cells of the row of Choice, one by one. -/
import Derived.Test.YtiocnfambeochaaGreatDoorCards
import Derived.Test.YtiocnfambeochaaGreatDoorTie
import Derived.ProofKit
import Derived.OpenShut
import Derived.ShutString
import Derived.Deep.DeepHandedRow
import Derived.Lib.LaidTab
import Derived.Lay
namespace Go.Proofs.YtiocnfambeochaaGreatDoor
theorem cf1 : (Rows.choiceRow.inPlace == Tryz.prog.inPlace 10) = true := by kernel_rfl
theorem cf2 : (Rows.choiceRow.unfollowed == Tryz.prog.unfollowed 10) = true := by kernel_rfl
theorem cf3 : (Rows.choiceRow.recurses == Tryz.prog.recurses 10) = true := by kernel_rfl
theorem cf4 : (Rows.choiceRow.named == Tryz.prog.varsNamed 10) = true := by kernel_rfl
theorem cf5 : laidOutB Tryz.prog = true := by kernel_rfl
theorem cf6 : mapsRowed Tryz.prog = true := by kernel_rfl
theorem choice_closed : joinedFacts Tryz.prog 10 Tryz.f10 (OpenSpec.ofChange Rows.choiceSpec).bare Rows.choiceRow = true := by
  unfold joinedFacts
  rw [cf1, cf2, cf3, cf4, cf5, cf6]
  kernel_rfl
end Go.Proofs.YtiocnfambeochaaGreatDoor
