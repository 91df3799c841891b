/- Texts put together. -/
import Derived.Test.YtiocnfambeochaaGreatDoorQ47
import Derived.ProofKit
import Derived.SliceStrings
import Derived.ChangeSlices
import Derived.SizedLaws
import Derived.Carry
import Derived.Test.YtiocnfambeochaaGreatDoorCards
import Derived.Test.YtiocnfambeochaaGreatDoorTie
import Derived.OpenShut
import Derived.ShutString
import Derived.Deep.DeepHandedRow
import Derived.Lib.LaidTab
import Derived.Lay
/- Slices that the caller hands in, opened. -/
set_option linter.unusedVariables false
set_option linter.unusedSimpArgs false
namespace Go.Proofs.YtiocnfambeochaaGreatDoor
open Go.ChangeShapes Go.WideShapes Go.ChangeAt Go.RowKit
theorem cells9o : Tryz.prog.cellsOf 9 = 1 := by kernel_rfl
theorem strs_weight {H : Type} {s : ByteArray} : ∀ {l : List ByteArray}, s ∈ l → s.data.toList.length ∈ DataW.weightsAll Tryz.prog 9 (strs (H := H) l)
  | a :: l, h => by
    show s.data.toList.length ∈ DataW.weights Tryz.prog 9 (.lit (.string a.data.toList)) ++ DataW.weightsAll Tryz.prog 9 (strs l)
    rcases List.mem_cons.1 h with rfl | h
    · exact List.mem_append_left _ (by simp [DataW.weights])
    · exact List.mem_append_right _ (strs_weight h)
theorem raw_open {H : Type} {enc : TypeId × Value → H} {W : World} {v : Value} {d : DataW H} {ps : List MemPlace} (hv : ∃ a len cap, v = .slice a len cap) (h : DataW.Trod enc Tryz.prog W 0 (fun _ => true) true 47 v d ps) (hsz : ∀ n ∈ d.weights Tryz.prog 47, n ≤ reachBytes) : ∃ l, RawS W v l := by
  obtain ⟨a0, len, cap, rfl⟩ := hv
  obtain ⟨fuel, hf⟩ := h
  rcases open_strings Tryz.underlying47 Tryz.underlying9 cells9o hf with ⟨hcs, hx⟩ | ⟨a, len', cap', ss, hcs, _, hl, hm, hz, hx, hcell, hws⟩
  · simp [Value.cells] at hcs
    obtain ⟨rfl, rfl, rfl⟩ := hcs
    exact ⟨[], .inl ⟨rfl, rfl⟩⟩
  · simp [Value.cells] at hcs
    obtain ⟨rfl, rfl, rfl⟩ := hcs
    simp only [Prod.mk.injEq] at hx
    obtain ⟨rfl, rfl⟩ := hx
    simp only [if_true] at hz
    have hlen : (ss.take len).length = len := by rw [List.length_take]; omega
    refine ⟨ss.take len, .inr ⟨a, cap, by rw [hlen], by rw [hlen]; exact hl, by rw [hlen]; omega, fun i s hi => ?_⟩⟩
    have hil : i < len := by have := (List.getElem?_eq_some_iff.1 hi).1; omega
    have hss : ss[i]? = some s := by rw [List.getElem?_take_of_lt hil] at hi; exact hi
    have hc := hcell i (by omega)
    rw [show ss.getD i ByteArray.empty = s by rw [List.getD_eq_getElem?_getD, hss]; rfl] at hc
    refine ⟨hc, ?_⟩
    have hw := hsz s.data.toList.length (by
      simp only [DataW.weights, Tryz.underlying47]
      exact List.mem_cons_of_mem _ (List.mem_append_left _ (strs_weight (List.mem_of_getElem? hi))))
    have h1 : s.data.toList.length = s.size := by rw [Array.length_toList]; rfl
    have h2 := reachBytes_lt
    omega
end Go.Proofs.YtiocnfambeochaaGreatDoor
/- The closed cells of the row of Firm, one by one. -/
namespace Go.Proofs.YtiocnfambeochaaGreatDoor
theorem cf1 : (Rows.firmRow.inPlace == Tryz.prog.inPlace 14) = true := by kernel_rfl
theorem cf2 : (Rows.firmRow.unfollowed == Tryz.prog.unfollowed 14) = true := by kernel_rfl
theorem cf3 : (Rows.firmRow.recurses == Tryz.prog.recurses 14) = true := by kernel_rfl
theorem cf4 : (Rows.firmRow.named == Tryz.prog.varsNamed 14) = true := by kernel_rfl
theorem cf5 : laidOutB Tryz.prog = true := by kernel_rfl
theorem cf6 : mapsRowed Tryz.prog = true := by kernel_rfl
theorem firm_closed : joinedFacts Tryz.prog 14 Tryz.f14 (OpenSpec.ofChange Rows.firmSpec).bare Rows.firmRow = true := by
  unfold joinedFacts
  rw [cf1, cf2, cf3, cf4, cf5, cf6]
  kernel_rfl
end Go.Proofs.YtiocnfambeochaaGreatDoor
