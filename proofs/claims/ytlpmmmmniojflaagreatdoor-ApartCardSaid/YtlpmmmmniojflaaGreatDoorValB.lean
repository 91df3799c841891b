/- Values, walked: the other signs. -/
import Derived.Test.YtlpmmmmniojflaaGreatDoorQ02
set_option linter.unusedVariables false
set_option linter.unusedSimpArgs false
namespace Go.Proofs.YtlpmmmmniojflaaGreatDoor
open Go.RowKit
set_option maxHeartbeats 2000000 in
theorem add_w (a b : V) (ha : I64 a.n) (hb : I64 b.n) : Gives 239 #[vV a, vV b] (vV (vAdd a b)) := by
  intro w
  unfold I64 at ha hb
  obtain ⟨ha1, ha2⟩ := ha
  obtain ⟨hb1, hb2⟩ := hb
  have HR : Hid (vAdd a b = if a.k = 1 ∧ b.k = 1 then vNum (a.n + b.n) else vE 4) := rfl
  generalize vAdd a b = res at *
  unfold vV
  by_cases h1 : a.k = 1
  · by_cases h2 : b.k = 1
    · obtain ⟨s, hs⟩ : ∃ s, wrap64 (a.n + b.n) = s := ⟨_, rfl⟩
      have HW : Hid (wrap64 (a.n + b.n) = s) := hs
      have HN : Hid (res = vNum (a.n + b.n)) := by unfold Hid; rw [HR.out, if_pos ⟨h1, h2⟩]
      by_cases p : a.n < 0 <;> by_cases q : b.n < 0 <;> by_cases r : s < 0
      all_goals
        go_enter Tryz.func239, Tryz.ntmps239
        go_wp2
        go_returns
        refine ⟨?_, ?_⟩
        · have := HW.out
          first
            | (have e : res = vI s := (by rw [HN.out]; exact num_in HW.out (by unfold wrap64 at this; omega)); rw [e]; rfl)
            | (have e : res = vE 1 := (by rw [HN.out]; exact num_out (by unfold wrap64 at this; omega)); rw [e]; rfl)
            | (have e : res = vI (a.n + b.n) := (by rw [HN.out]; unfold vNum inR; rw [if_pos (decide_eq_true (by omega))]); rw [e]; rfl)
        · repeat (first | exact Below.refl _ _ | refine bal ?_ _)
    · have HN : Hid (res = vE 4) := by unfold Hid; rw [HR.out, if_neg (fun h => h2 h.2)]
      have e2 : (b.k == 1) = false := by simpa using h2
      go_enter Tryz.func239, Tryz.ntmps239
      go_wp2
      go_returns
      rw [HN.out]
      exact ⟨rfl, by repeat (first | exact Below.refl _ _ | refine bal ?_ _)⟩
  · have HN : Hid (res = vE 4) := by unfold Hid; rw [HR.out, if_neg (fun h => h1 h.1)]
    have e1 : (a.k == 1) = false := by simpa using h1
    go_enter Tryz.func239, Tryz.ntmps239
    go_wp2
    go_returns
    rw [HN.out]
    exact ⟨rfl, by repeat (first | exact Below.refl _ _ | refine bal ?_ _)⟩
set_option maxHeartbeats 2000000 in
theorem sub_w (a b : V) (ha : I64 a.n) (hb : I64 b.n) : Gives 238 #[vV a, vV b] (vV (vSub a b)) := by
  intro w
  unfold I64 at ha hb
  obtain ⟨ha1, ha2⟩ := ha
  obtain ⟨hb1, hb2⟩ := hb
  have HR : Hid (vSub a b = if a.k = 1 ∧ b.k = 1 then vNum (a.n - b.n) else vE 4) := rfl
  generalize vSub a b = res at *
  unfold vV
  by_cases h1 : a.k = 1
  · by_cases h2 : b.k = 1
    · obtain ⟨s, hs⟩ : ∃ s, wrap64 (a.n - b.n) = s := ⟨_, rfl⟩
      have HW : Hid (wrap64 (a.n - b.n) = s) := hs
      have HN : Hid (res = vNum (a.n - b.n)) := by unfold Hid; rw [HR.out, if_pos ⟨h1, h2⟩]
      by_cases p : a.n < 0 <;> by_cases q : b.n < 0 <;> by_cases r : s < 0
      all_goals
        go_enter Tryz.func238, Tryz.ntmps238
        go_wp2
        go_returns
        refine ⟨?_, ?_⟩
        · have := HW.out
          first
            | (have e : res = vI s := (by rw [HN.out]; exact num_in HW.out (by unfold wrap64 at this; omega)); rw [e]; rfl)
            | (have e : res = vE 1 := (by rw [HN.out]; exact num_out (by unfold wrap64 at this; omega)); rw [e]; rfl)
            | (have e : res = vI (a.n - b.n) := (by rw [HN.out]; unfold vNum inR; rw [if_pos (decide_eq_true (by omega))]); rw [e]; rfl)
        · repeat (first | exact Below.refl _ _ | refine bal ?_ _)
    · have HN : Hid (res = vE 4) := by unfold Hid; rw [HR.out, if_neg (fun h => h2 h.2)]
      have e2 : (b.k == 1) = false := by simpa using h2
      go_enter Tryz.func238, Tryz.ntmps238
      go_wp2
      go_returns
      rw [HN.out]
      exact ⟨rfl, by repeat (first | exact Below.refl _ _ | refine bal ?_ _)⟩
  · have HN : Hid (res = vE 4) := by unfold Hid; rw [HR.out, if_neg (fun h => h1 h.1)]
    have e1 : (a.k == 1) = false := by simpa using h1
    go_enter Tryz.func238, Tryz.ntmps238
    go_wp2
    go_returns
    rw [HN.out]
    exact ⟨rfl, by repeat (first | exact Below.refl _ _ | refine bal ?_ _)⟩
end Go.Proofs.YtlpmmmmniojflaaGreatDoor
