/- Texts put together. -/
import Derived.Test.YtlpmmmmniojflaaGreatDoorQ47
import Derived.ProofKit
import Derived.SliceStrings
import Derived.ChangeSlices
import Derived.SizedLaws
import Derived.Carry
import Derived.Test.YtlpmmmmniojflaaGreatDoorCards
import Derived.Test.YtlpmmmmniojflaaGreatDoorTie
import Derived.OpenShut
import Derived.ShutString
import Derived.Deep.DeepHandedRow
import Derived.Lib.LaidTab
import Derived.Lay
/- Slices that the caller hands in, opened. -/
set_option linter.unusedVariables false
set_option linter.unusedSimpArgs false
namespace Go.Proofs.YtlpmmmmniojflaaGreatDoor
open Go.ChangeShapes Go.WideShapes Go.ChangeAt Go.RowKit
theorem cells9o : Tryz.prog.cellsOf 9 = 1 := by kernel_rfl
theorem cells3o : Tryz.prog.cellsOf 3 = 1 := by kernel_rfl
theorem strs_weight {H : Type} {s : ByteArray} : ∀ {l : List ByteArray}, s ∈ l → s.data.toList.length ∈ DataW.weightsAll Tryz.prog 9 (strs (H := H) l)
  | a :: l, h => by
    show s.data.toList.length ∈ DataW.weights Tryz.prog 9 (.lit (.string a.data.toList)) ++ DataW.weightsAll Tryz.prog 9 (strs l)
    rcases List.mem_cons.1 h with rfl | h
    · exact List.mem_append_left _ (by simp [DataW.weights])
    · exact List.mem_append_right _ (strs_weight h)
theorem raw_open {H : Type} {enc : TypeId × Value → H} {W : World} {v : Value} {d : DataW H} {ps : List MemPlace} (hv : ∃ a len cap, v = .slice a len cap) (h : DataW.Trod enc Tryz.prog W 0 (fun _ => true) true 47 v d ps) (hsz : ∀ n ∈ d.weights Tryz.prog 47, n ≤ reachBytes) : ∃ l, RawS W v l := by
  obtain ⟨a0, len, cap, rfl⟩ := hv
  obtain ⟨fuel, hf⟩ := h
  rcases open_strings Tryz.underlying47 Tryz.underlying9 cells9o hf with ⟨hcs, hx⟩ | ⟨a, len', cap', ss, hcs, _, hl, hm, hz, hx, hcell, hws⟩
  · simp [Value.cells] at hcs
    obtain ⟨rfl, rfl, rfl⟩ := hcs
    exact ⟨[], .inl ⟨rfl, rfl⟩⟩
  · simp [Value.cells] at hcs
    obtain ⟨rfl, rfl, rfl⟩ := hcs
    simp only [Prod.mk.injEq] at hx
    obtain ⟨rfl, rfl⟩ := hx
    simp only [if_true] at hz
    have hlen : (ss.take len).length = len := by rw [List.length_take]; omega
    refine ⟨ss.take len, .inr ⟨a, cap, by rw [hlen], by rw [hlen]; exact hl, by rw [hlen]; omega, fun i s hi => ?_⟩⟩
    have hil : i < len := by have := (List.getElem?_eq_some_iff.1 hi).1; omega
    have hss : ss[i]? = some s := by rw [List.getElem?_take_of_lt hil] at hi; exact hi
    have hc := hcell i (by omega)
    rw [show ss.getD i ByteArray.empty = s by rw [List.getD_eq_getElem?_getD, hss]; rfl] at hc
    refine ⟨hc, ?_⟩
    have hw := hsz s.data.toList.length (by
      simp only [DataW.weights, Tryz.underlying47]
      exact List.mem_cons_of_mem _ (List.mem_append_left _ (strs_weight (List.mem_of_getElem? hi))))
    have h1 : s.data.toList.length = s.size := by rw [Array.length_toList]; rfl
    have h2 := reachBytes_lt
    omega
theorem int_i64 {n : Int} (h : (Lit.int .i64 n).wf = true) : I64 n := by
  simp [Lit.wf] at h
  have e : IntKind.i64.min = -9223372036854775808 := by decide
  rw [e] at h
  exact h
theorem how_open {H : Type} {enc : TypeId × Value → H} {W : World} {v : Value} {d : DataW H} {ps : List MemPlace} (hv : ∃ a len cap, v = .slice a len cap) (h : DataW.Trod enc Tryz.prog W 0 (fun _ => true) true 56 v d ps) : ∃ l, HowS W v l := by
  obtain ⟨a0, len, cap, rfl⟩ := hv
  obtain ⟨fuel, hf⟩ := h
  rcases open_ints Tryz.underlying56 Tryz.underlying3 cells3o hf with ⟨hcs, hx⟩ | ⟨a, len', cap', zs, hcs, _, hl, hm, hz, hx, hcell, hwz⟩
  · simp [Value.cells] at hcs
    obtain ⟨rfl, rfl, rfl⟩ := hcs
    exact ⟨[], .inl ⟨rfl, rfl⟩⟩
  · simp [Value.cells] at hcs
    obtain ⟨rfl, rfl, rfl⟩ := hcs
    simp only [if_true] at hz
    have hlen : (zs.take len).length = len := by rw [List.length_take]; omega
    refine ⟨zs.take len, .inr ⟨a, cap, by rw [hlen], by rw [hlen]; exact hl, by rw [hlen]; omega, fun i s hi => ?_⟩⟩
    have hil : i < len := by have := (List.getElem?_eq_some_iff.1 hi).1; omega
    have hss : zs[i]? = some s := by rw [List.getElem?_take_of_lt hil] at hi; exact hi
    have hc := hcell i (by omega)
    rw [show zs.getD i 0 = s by rw [List.getD_eq_getElem?_getD, hss]; rfl] at hc
    exact ⟨hc, int_i64 (hwz s (List.mem_of_getElem? hss))⟩
end Go.Proofs.YtlpmmmmniojflaaGreatDoor
/- The closed cells of the row of Apart, one by one. -/
namespace Go.Proofs.YtlpmmmmniojflaaGreatDoor
theorem cf1 : (Rows.apartRow.inPlace == Tryz.prog.inPlace 14) = true := by kernel_rfl
theorem cf2 : (Rows.apartRow.unfollowed == Tryz.prog.unfollowed 14) = true := by kernel_rfl
theorem cf3 : (Rows.apartRow.recurses == Tryz.prog.recurses 14) = true := by kernel_rfl
theorem cf4 : (Rows.apartRow.named == Tryz.prog.varsNamed 14) = true := by kernel_rfl
theorem cf5 : laidOutB Tryz.prog = true := by kernel_rfl
theorem cf6 : mapsRowed Tryz.prog = true := by kernel_rfl
theorem apart_closed : joinedFacts Tryz.prog 14 Tryz.f14 (OpenSpec.ofChange Rows.apartSpec).bare Rows.apartRow = true := by
  unfold joinedFacts
  rw [cf1, cf2, cf3, cf4, cf5, cf6]
  kernel_rfl
end Go.Proofs.YtlpmmmmniojflaaGreatDoor
