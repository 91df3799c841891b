/- The closed cells of the row of Cutoff, one by one. -/
import Derived.Test.YtiocnfambeochaaGreatDoorCards
import Derived.Test.YtiocnfambeochaaGreatDoorTie
import Derived.ProofKit
import Derived.OpenShut
import Derived.ShutString
import Derived.Deep.DeepHandedRow
import Derived.Lib.LaidTab
import Derived.Lay
namespace Go.Proofs.YtiocnfambeochaaGreatDoor
theorem cf1 : (Rows.cutoffRow.inPlace == Tryz.prog.inPlace 12) = true := by kernel_rfl
theorem cf2 : (Rows.cutoffRow.unfollowed == Tryz.prog.unfollowed 12) = true := by kernel_rfl
theorem cf3 : (Rows.cutoffRow.recurses == Tryz.prog.recurses 12) = true := by kernel_rfl
theorem cf4 : (Rows.cutoffRow.named == Tryz.prog.varsNamed 12) = true := by kernel_rfl
theorem cf5 : laidOutB Tryz.prog = true := by kernel_rfl
theorem cf6 : mapsRowed Tryz.prog = true := by kernel_rfl
theorem cutoff_closed : joinedFacts Tryz.prog 12 Tryz.f12 (OpenSpec.ofChange Rows.cutoffSpec).bare Rows.cutoffRow = true := by
  unfold joinedFacts
  rw [cf1, cf2, cf3, cf4, cf5, cf6]
  kernel_rfl
end Go.Proofs.YtiocnfambeochaaGreatDoor
