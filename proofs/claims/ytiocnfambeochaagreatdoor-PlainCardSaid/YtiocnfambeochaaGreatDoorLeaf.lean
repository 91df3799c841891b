/- Small functions of the program: what each call returns, the world as it was. -/
import Derived.Test.YtiocnfambeochaaGreatDoorProg
import Derived.Test.YtiocnfambeochaaGreatDoorMath
import Derived.WalkKit
import Derived.WalkSpells
import Derived.WalkLawsBesides
namespace Go.Proofs.YtiocnfambeochaaGreatDoor
open Go.RowKit

set_option maxHeartbeats 400000 in
theorem digit_any (c : Int) (w : World) :
    Calls Tryz.prog 149 #[.int .u8 c] w fun e w' => e = .returned (.bool (dgB c)) ∧ w' = w := by
  go_enter Tryz.func149, Tryz.ntmps149
  go_wp2
  all_goals
    go_ret
    exact ⟨ret_bool (by rw [Bool.eq_iff_iff]; simp [dgB]; omega), rfl⟩

set_option maxHeartbeats 400000 in
theorem letter_any (c : Int) (w : World) :
    Calls Tryz.prog 151 #[.int .u8 c] w fun e w' => e = .returned (.bool (ltB c)) ∧ w' = w := by
  go_enter Tryz.func151, Tryz.ntmps151
  go_wp2
  all_goals
    go_ret
    exact ⟨ret_bool (by rw [Bool.eq_iff_iff]; simp [ltB]; omega), rfl⟩

set_option maxHeartbeats 1000000 in
theorem sign_any (c : Int) (w : World) :
    Calls Tryz.prog 154 #[.int .u8 c] w fun e w' => e = .returned (.int .i64 (sgnI c)) ∧ w' = w := by
  go_enter Tryz.func154, Tryz.ntmps154
  go_wp2
  all_goals
    go_ret
    exact ⟨ret_int (by simp_all [sgnI]), rfl⟩

theorem take_snoc (s : ByteArray) (k : Nat) (h : k < s.size) : s.data.toList.take (k + 1) = s.data.toList.take k ++ [s[k]] := by
  rw [List.take_succ_eq_append_getElem (by simpa using h)]; rfl
theorem drop_at (s : ByteArray) (k : Nat) (h : k < s.size) : s.data.toList.drop k = s[k] :: s.data.toList.drop (k + 1) := by
  rw [List.drop_eq_getElem_cons (by simpa using h)]; rfl
theorem len_eq (s : ByteArray) : s.data.toList.length = s.size := Array.length_toList
theorem drop_end (s : ByteArray) : s.data.toList.drop s.size = [] := by
  rw [← len_eq s]; exact List.drop_length

theorem spn_step (p : Int → Bool) (s : ByteArray) (k : Nat) (h : k < s.size) :
    spn p (s.data.toList.drop k) = if p (s[k].toNat : Int) = true then spn p (s.data.toList.drop (k + 1)) + 1 else 0 := by
  rw [drop_at s k h]; rfl
theorem spn_end (p : Int → Bool) (s : ByteArray) : spn p (s.data.toList.drop s.size) = 0 := by
  rw [drop_end]; rfl

theorem celB_eq (s : ByteArray) (h : 0 < s.size) : celB s.data.toList =
    (decide ((65 : Int) ≤ (s[0].toNat : Int) ∧ (s[0].toNat : Int) ≤ 90) && (decide (2 ≤ s.size) && decide (spn dgB (s.data.toList.drop 1) + 1 = s.size))) := by
  have hd := drop_at s 0 h
  simp only [List.drop_zero, Nat.zero_add] at hd
  have hl := len_eq s
  conv => lhs; rw [hd]
  rw [hd] at hl
  simp only [List.length_cons] at hl
  simp only [celB]
  have e1 : decide (1 ≤ (s.data.toList.drop 1).length) = decide (2 ≤ s.size) := by rw [Bool.eq_iff_iff]; simp only [decide_eq_true_eq]; omega
  have e2 : decide (spn dgB (s.data.toList.drop 1) = (s.data.toList.drop 1).length) = decide (spn dgB (s.data.toList.drop 1) + 1 = s.size) := by rw [Bool.eq_iff_iff]; simp only [decide_eq_true_eq]; omega
  rw [e1, e2]
theorem celB_short (s : ByteArray) (h : s.size < 2) : celB s.data.toList = false := by
  by_cases h0 : 0 < s.size
  · rw [celB_eq s h0, decide_eq_false (show ¬ 2 ≤ s.size by omega)]; simp
  · have hl := len_eq s
    have : s.data.toList = [] := List.length_eq_zero_iff.1 (by omega)
    rw [this]; rfl
theorem celB_yes (s : ByteArray) (h : 2 ≤ s.size) (ha : (65 : Int) ≤ (s[0].toNat : Int)) (hb : (s[0].toNat : Int) ≤ 90) (hk : spn dgB (s.data.toList.drop 1) + 1 = s.size) : celB s.data.toList = true := by
  rw [celB_eq s (by omega), decide_eq_true (show _ ∧ _ from ⟨ha, hb⟩), decide_eq_true h, decide_eq_true hk]; rfl
theorem celB_no (s : ByteArray) (h : 0 < s.size) (hk : spn dgB (s.data.toList.drop 1) + 1 ≠ s.size) : celB s.data.toList = false := by
  rw [celB_eq s h, decide_eq_false hk]; simp
theorem celB_other (s : ByteArray) (h : 0 < s.size) (ha : ¬ ((65 : Int) ≤ (s[0].toNat : Int) ∧ (s[0].toNat : Int) ≤ 90)) : celB s.data.toList = false := by
  rw [celB_eq s h, decide_eq_false ha]; simp

set_option maxHeartbeats 1000000 in
theorem looks_any (s : ByteArray) (w : World) (hs : s.size ≤ maxLen) :
    Calls Tryz.prog 207 #[.string s] w fun e w' => e = .returned (.bool (celB s.data.toList)) ∧ w' = w := by
  unfold maxLen at hs
  by_cases h2 : s.size < 2
  · have H : Hid (celB s.data.toList = false) := celB_short s h2
    go_enter Tryz.func207, Tryz.ntmps207
    go_wp2
    go_ret
    exact ⟨ret_bool H.out.symm, rfl⟩
  · have h0 : 0 < s.size := by omega
    by_cases ha : (65 : Int) ≤ (s[0].toNat : Int)
    · by_cases hb : (s[0].toNat : Int) ≤ 90
      · go_enter Tryz.func207, Tryz.ntmps207
        go_wp2_with (go_at_call 149; refine (digit_any _ _).mono ?_; rintro e w' ⟨rfl, rfl⟩)
        go_loop [3] (fun i => ∃ k : Nat, 1 ≤ k ∧ k ≤ s.size ∧ i = .int .i64 k ∧ Hid (spn dgB (s.data.toList.drop 1) + 1 = k + spn dgB (s.data.toList.drop k))) (fun i => s.size - (intOf i).toNat)
        case atStart => exact ⟨1, by omega, by omega, rfl, by unfold Hid; omega⟩
        case round =>
          obtain ⟨k, hk1, hk, rfl, hinv⟩ := hrel
          by_cases hlt : k < s.size
          · have hst : Hid _ := spn_step dgB s k hlt
            cases hg : dgB (s[k].toNat : Int)
            · have HG : Hid _ := hg
              go_wp2_with (go_at_call 149; refine (digit_any _ _).mono ?_; rintro e w' ⟨rfl, rfl⟩)
              go_ret
              have hi := hinv.out
              have h3 := hst.out
              rw [HG.out, if_neg (by simp)] at h3
              exact ⟨ret_bool (celB_no s h0 (by omega)).symm, rfl⟩
            · have HG : Hid _ := hg
              go_wp2_with (go_at_call 149; refine (digit_any _ _).mono ?_; rintro e w' ⟨rfl, rfl⟩)
              go_round
              case rel =>
                have hi := hinv.out
                have h3 := hst.out
                rw [HG.out, if_pos rfl] at h3
                exact ⟨k + 1, by omega, by omega, by go_num, by unfold Hid; omega⟩
              case measure => simp [intOf]; omega
          · go_wp2_with fail
            go_ret
            have e : k = s.size := by omega
            have hi := hinv.out
            rw [e, spn_end] at hi
            exact ⟨ret_bool (celB_yes s (by omega) ha hb (by omega)).symm, rfl⟩
      · have H : Hid (celB s.data.toList = false) := celB_other s h0 (by omega)
        go_enter Tryz.func207, Tryz.ntmps207
        go_wp2_with fail
        go_ret
        exact ⟨ret_bool H.out.symm, rfl⟩
    · have H : Hid (celB s.data.toList = false) := celB_other s h0 (by omega)
      go_enter Tryz.func207, Tryz.ntmps207
      go_wp2_with fail
      go_ret
      exact ⟨ret_bool H.out.symm, rfl⟩

set_option maxHeartbeats 1000000 in
theorem wordKind_any (s : ByteArray) (w : World) (hs : s.size ≤ maxLen) :
    Calls Tryz.prog 186 #[.string s] w fun e w' => e = .returned (.int .i64 (wrdI s.data.toList)) ∧ w' = w := by
  go_enter Tryz.func186, Tryz.ntmps186
  go_wp2_with (go_at_call 207; refine (looks_any s _ hs).mono ?_; rintro e w' ⟨rfl, rfl⟩)
  all_goals
    go_ret
    exact ⟨ret_int (by rw [← ByteArray.toList_eq] at *; simp_all [wrdI]), rfl⟩
end Go.Proofs.YtiocnfambeochaaGreatDoor
