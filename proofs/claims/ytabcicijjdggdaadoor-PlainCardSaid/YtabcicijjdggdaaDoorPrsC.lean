/- The parser's functions 'choice', 'bracketed', 'atom'. -/
import Derived.Test.YtabcicijjdggdaaDoorPrsB
namespace Go.Proofs.YtabcicijjdggdaaDoor
open Go.RowKit

theorem and_cases {x : Option PR} {k : List Tk → Nat → Nat → Option PR} {r : PR} (h : andThen x k = some r) : ∃ r1, x = some r1 ∧ ((r1.ok = false ∧ r1 = r) ∨ (r1.ok = true ∧ k r1.ts r1.i r1.d = some r)) := by
  match x, h with
  | none, h => simp [andThen] at h
  | some r1, h =>
    refine ⟨r1, rfl, ?_⟩
    cases hok : r1.ok
    · simp only [andThen, hok, Bool.false_eq_true, if_false, Option.some.injEq] at h
      exact Or.inl ⟨rfl, h⟩
    · simp only [andThen, hok, if_true] at h
      exact Or.inr ⟨rfl, h⟩
theorem wants_cases {q : Int} {ts : List Tk} {i d : Nat} {k : List Tk → Nat → Nat → Option PR} {r : PR} (h : wants q ts i d k = some r) :
    (tkB [q] (kindAt ts i) = false ∧ tkI [q] (kindAt ts i) i = i ∧ ⟨false, ts, i, d⟩ = r) ∨ (tkB [q] (kindAt ts i) = true ∧ tkI [q] (kindAt ts i) i = i + 1 ∧ k ts (i + 1) d = some r) := by
  unfold wants at h
  by_cases hq : kindAt ts i = q
  · rw [if_pos hq] at h
    exact Or.inr ⟨(one_yes i hq).1, (one_yes i hq).2, h⟩
  · rw [if_neg hq, Option.some.injEq] at h
    exact Or.inl ⟨(one_no i hq).1, (one_no i hq).2, h⟩

theorem prs4 (f : Nat) (ts : List Tk) (i d : Nat) : prs (f + 1) 4 ts i d = andThen (prs f 0 ts i d) fun ts i d => wants 14 ts i d fun ts i d => andThen (prs f 0 ts i d) fun ts i d => wants 14 ts i d fun ts i d => prs f 0 ts i d := rfl

set_option maxHeartbeats 2000000 in
theorem choice_step (f : Nat) (s0 : Cal 21 0 f) : Cal 72 4 (f + 1) := by
  intro w B pb v ts i d r hpw he
  rw [prs4] at he
  obtain ⟨r1, hr1, hc1⟩ := and_cases he
  have HP : Hid _ := hpw
  have HR1 : Hid _ := hr1
  have HC1 : Hid _ := hc1
  clear hpw he hr1 hc1
  go_enter Tryd.func72, Tryd.ntmps72
  go_wp2_with fail
  refine (s0 _ B pb v ts i d r1 HP.out HR1.out).mono ?_
  rintro e w1 ⟨rfl, hb1, hp1⟩
  rcases HC1.out with ⟨hok, hrr⟩ | ⟨hok, hk1⟩
  · have HO : Hid _ := hok
    have HRR : Hid _ := hrr
    clear HC1 hok hrr
    rw [HO.out]
    go_wp2_with fail
    go_ret
    rw [← HRR.out, HO.out]
    exact ⟨rfl, hb1, hp1⟩
  have HO : Hid _ := hok
  have HK1 : Hid _ := hk1
  have HP1 : Hid _ := hp1
  have HB1 : Hid _ := hb1
  clear HC1 hok hk1 hp1 hb1
  rw [HO.out]
  go_wp2_with fail
  refine (take1 14 (by decide) _ B pb v _ _ _ HP1).mono ?_
  rintro e w2 ⟨rfl, hb2, hp2⟩
  rcases wants_cases HK1.out with ⟨hB, hI, hrr⟩ | ⟨hB, hI, hk2⟩
  · have HBB : Hid _ := hB
    rw [hI] at hp2
    clear HK1 hB hI
    rw [HBB.out]
    have HRR : Hid _ := hrr
    clear hrr
    go_wp2_with fail
    go_ret
    rw [← HRR.out]
    exact ⟨rfl, HB1.out.trans hb2, hp2⟩
  have HBB : Hid _ := hB
  rw [hI] at hp2
  have HB2 : Hid (Below B w w2) := HB1.out.trans hb2
  have HP2 : Hid _ := hp2
  have HK2 : Hid _ := hk2
  clear HK1 HB1 hB hI hb2 hp2 hk2
  rw [HBB.out]
  obtain ⟨r2, hr2, hc2⟩ := and_cases HK2.out
  have HR2 : Hid _ := hr2
  have HC2 : Hid _ := hc2
  clear HK2 hr2 hc2
  go_wp2_with fail
  refine (s0 _ B pb v _ _ _ r2 HP2.out HR2.out).mono ?_
  rintro e w3 ⟨rfl, hb3, hp3⟩
  rcases HC2.out with ⟨hok, hrr⟩ | ⟨hok, hk3⟩
  · have HO2 : Hid _ := hok
    have HRR : Hid _ := hrr
    clear HC2 hok hrr
    rw [HO2.out]
    go_wp2_with fail
    go_ret
    rw [← HRR.out, HO2.out]
    exact ⟨rfl, HB2.out.trans hb3, hp3⟩
  have HO2 : Hid _ := hok
  have HK3 : Hid _ := hk3
  have HP3 : Hid _ := hp3
  have HB3 : Hid (Below B w w3) := HB2.out.trans hb3
  clear HC2 hok hk3 hp3 hb3 HB2
  rw [HO2.out]
  go_wp2_with fail
  refine (take1 14 (by decide) _ B pb v _ _ _ HP3).mono ?_
  rintro e w4 ⟨rfl, hb4, hp4⟩
  rcases wants_cases HK3.out with ⟨hB, hI, hrr⟩ | ⟨hB, hI, hk4⟩
  · have HBB4 : Hid _ := hB
    rw [hI] at hp4
    clear HK3 hB hI
    rw [HBB4.out]
    have HRR : Hid _ := hrr
    clear hrr
    go_wp2_with fail
    go_ret
    rw [← HRR.out]
    exact ⟨rfl, HB3.out.trans hb4, hp4⟩
  have HBB4 : Hid _ := hB
  rw [hI] at hp4
  have HB4 : Hid (Below B w w4) := HB3.out.trans hb4
  have HP4 : Hid _ := hp4
  have HK4 : Hid _ := hk4
  clear HK3 HB3 hB hI hb4 hp4 hk4
  rw [HBB4.out]
  go_wp2_with fail
  refine (s0 _ B pb v _ _ _ r HP4.out HK4.out).mono ?_
  rintro e w5 ⟨rfl, hb5, hp5⟩
  go_wp2_with fail
  all_goals
    go_ret
    refine ⟨ret_bool ?_, HB4.out.trans hb5, hp5⟩
    simp_all
end Go.Proofs.YtabcicijjdggdaaDoor
