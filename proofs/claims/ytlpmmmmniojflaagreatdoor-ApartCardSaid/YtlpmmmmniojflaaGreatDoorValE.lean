/- Values, walked: Divide, Join, Less; combine. -/
import Derived.Test.YtlpmmmmniojflaaGreatDoorQ15
import Derived.Test.YtlpmmmmniojflaaGreatDoorQ04
set_option linter.unusedVariables false
set_option linter.unusedSimpArgs false
namespace Go.Proofs.YtlpmmmmniojflaaGreatDoor
open Go.RowKit
theorem ltL_less : ∀ (l m : List UInt8), Op.bytesLess l m = ltL l m
  | [], [] => rfl
  | _ :: _, [] => rfl
  | [], _ :: _ => rfl
  | a :: l, b :: m => by
    have ih := ltL_less l m
    show (decide (a < b) || (a == b && Op.bytesLess l m)) = ltL (a :: l) (b :: m)
    unfold ltL
    rw [ih]
    by_cases h1 : a.toNat < b.toNat
    · have : a < b := UInt8.lt_iff_toNat_lt.2 h1
      simp [h1, this]
    · have n1 : ¬ a < b := fun h => h1 (UInt8.lt_iff_toNat_lt.1 h)
      by_cases h2 : b.toNat < a.toNat
      · have : a ≠ b := by intro e; rw [e] at h2; omega
        simp [h1, h2, n1, this]
      · have : a = b := UInt8.toNat_inj.1 (by omega)
        simp [h1, h2, n1, this]
set_option maxHeartbeats 2000000 in
theorem less_n (a b : V) (h1 : a.k = 1) (h2 : b.k = 1) : Gives 244 #[vV a, vV b] (vV (vLess a b)) := by
  intro w
  have HF : Hid (vLess a b = vB (decide (a.n < b.n))) := by unfold Hid vLess; rw [if_pos ⟨h1, h2⟩]
  unfold vV
  by_cases hn : a.n < b.n
  all_goals
    go_enter Tryz.func244, Tryz.ntmps244
    go_wp2
    go_returns
    rw [HF.out]
    refine ⟨?_, by repeat (first | exact Below.refl _ _ | refine bal ?_ _)⟩
    simp [hn, vB, eB]
    try omega
set_option maxHeartbeats 2000000 in
theorem less_s (a b : V) (h1 : a.k = 3) (h2 : b.k = 3) : Gives 244 #[vV a, vV b] (vV (vLess a b)) := by
  intro w
  obtain ⟨lb, hlb⟩ : ∃ lb, Op.bytesLess a.s.toList b.s.toList = lb := ⟨_, rfl⟩
  have HF : Hid (vLess a b = vB lb) := by
    unfold Hid vLess
    rw [if_neg (by omega), if_pos ⟨h1, h2⟩, ← ltL_less, ← ByteArray.toList_eq, ← ByteArray.toList_eq, hlb]
  unfold vV
  cases lb
  all_goals
    go_enter Tryz.func244, Tryz.ntmps244
    go_wp2
    go_returns
    rw [HF.out]
    exact ⟨rfl, by repeat (first | exact Below.refl _ _ | refine bal ?_ _)⟩
set_option maxHeartbeats 2000000 in
theorem less_e (a b : V) (h1 : ¬ (a.k = 1 ∧ b.k = 1)) (h2 : ¬ (a.k = 3 ∧ b.k = 3)) : Gives 244 #[vV a, vV b] (vV (vLess a b)) := by
  intro w
  have HF : Hid (vLess a b = vE 4) := by unfold Hid vLess; rw [if_neg h1, if_neg h2]
  unfold vV
  by_cases a1 : a.k = 1
  · have b1 : b.k ≠ 1 := fun h => h1 ⟨a1, h⟩
    have b1' : (b.k == 1) = false := by simpa using b1
    go_enter Tryz.func244, Tryz.ntmps244
    go_wp2
    go_returns
    rw [HF.out]
    exact ⟨rfl, by repeat (first | exact Below.refl _ _ | refine bal ?_ _)⟩
  · have a1' : (a.k == 1) = false := by simpa using a1
    by_cases a3 : a.k = 3
    · have b3 : b.k ≠ 3 := fun h => h2 ⟨a3, h⟩
      have b3' : (b.k == 3) = false := by simpa using b3
      go_enter Tryz.func244, Tryz.ntmps244
      go_wp2
      go_returns
      rw [HF.out]
      exact ⟨rfl, by repeat (first | exact Below.refl _ _ | refine bal ?_ _)⟩
    · have a3' : (a.k == 3) = false := by simpa using a3
      go_enter Tryz.func244, Tryz.ntmps244
      go_wp2
      go_returns
      rw [HF.out]
      exact ⟨rfl, by repeat (first | exact Below.refl _ _ | refine bal ?_ _)⟩
theorem less_w (a b : V) : Gives 244 #[vV a, vV b] (vV (vLess a b)) := by
  by_cases h1 : a.k = 1 ∧ b.k = 1
  · exact less_n a b h1.1 h1.2
  · by_cases h2 : a.k = 3 ∧ b.k = 3
    · exact less_s a b h2.1 h2.2
    · exact less_e a b h1 h2
set_option maxHeartbeats 2000000 in
theorem join_w (a b : V) (ha : a.s.size ≤ 1000) (hb : b.s.size ≤ 1000) : Gives 242 #[vV a, vV b] (vV (vJoin a b)) := by
  intro w
  by_cases h1 : a.k = 3
  · by_cases h2 : b.k = 3
    · by_cases hl : 20 < a.s.size + b.s.size
      · have HF : Hid (vJoin a b = vE 1) := by unfold Hid vJoin; rw [if_pos ⟨h1, h2⟩, if_pos hl]
        have hl2 : (20 : Int) < (a.s.size : Int) + (b.s.size : Int) := by omega
        unfold vV
        go_enter Tryz.func242, Tryz.ntmps242
        go_wp2
        go_returns
        rw [HF.out]
        exact ⟨rfl, by repeat (first | exact Below.refl _ _ | refine bal ?_ _)⟩
      · have HF : Hid (vJoin a b = vT (a.s ++ b.s)) := by unfold Hid vJoin; rw [if_pos ⟨h1, h2⟩, if_neg hl]
        have hl2 : ¬ (20 : Int) < (a.s.size : Int) + (b.s.size : Int) := by omega
        have hl3 : ¬ (9223372036854775807 : Int) < (a.s.size : Int) + (b.s.size : Int) := by omega
        unfold vV
        go_enter Tryz.func242, Tryz.ntmps242
        go_wp2
        go_returns
        rw [HF.out]
        exact ⟨rfl, by repeat (first | exact Below.refl _ _ | refine bal ?_ _)⟩
    · have HF : Hid (vJoin a b = vE 4) := by unfold Hid vJoin; rw [if_neg (fun h => h2 h.2)]
      have b3' : (b.k == 3) = false := by simpa using h2
      unfold vV
      go_enter Tryz.func242, Tryz.ntmps242
      go_wp2
      go_returns
      rw [HF.out]
      exact ⟨rfl, by repeat (first | exact Below.refl _ _ | refine bal ?_ _)⟩
  · have HF : Hid (vJoin a b = vE 4) := by unfold Hid vJoin; rw [if_neg (fun h => h1 h.1)]
    have b3' : (a.k == 3) = false := by simpa using h1
    unfold vV
    go_enter Tryz.func242, Tryz.ntmps242
    go_wp2
    go_returns
    rw [HF.out]
    exact ⟨rfl, by repeat (first | exact Below.refl _ _ | refine bal ?_ _)⟩
end Go.Proofs.YtlpmmmmniojflaaGreatDoor
