/- Texts put together. -/
import Derived.Test.YtiocnfambeochaaGreatDoorQ11
/- The parser's functions 'sum' and 'product' (loops), 'corners', 'choice'. -/
namespace Go.Proofs.YtiocnfambeochaaGreatDoor
open Go.RowKit

set_option maxHeartbeats 1000000 in
theorem sum_step (f : Nat) (s2 : ∀ g, g ≤ f → Cal 155 2 g) : Cal 122 1 (f + 1) := by
  intro w B pb v ts i d r hpw he
  go_enter Tryz.func122, Tryz.ntmps122
  go_wp2_with fail
  go_loopg [3] (f + 1) (fun g _ wr => ∃ (ts' : List Tk) (i' d' : Nat), g ≤ f + 1 ∧ Hid (PW wr B pb v ts' i' d') ∧ Hid (Below B w wr) ∧ Hid (prs g 1 ts' i' d' = some r))
  case atStart => exact ⟨ts, i, d, Nat.le_refl _, hpw, Below.refl _ _, he⟩
  case round =>
    obtain ⟨ts', i', d', hg, HP, HW, he'⟩ := hrel
    clear hpw he
    match gk, hg, he' with
    | 0, _, he' => exact absurd he'.out (by simp [prs])
    | g + 1, hg, he' =>
      have he := he'.out
      clear he'
      rw [prs1] at he
      match hr : prs g 2 ts' i' d' with
      | none => rw [hr] at he; simp [andThen] at he
      | some r1 =>
        rw [hr] at he
        have HR : Hid _ := hr
        have HE : Hid _ := he
        have s3 := s2 g (by omega)
        clear hr he s2
        cases hok : r1.ok
        · have hrr : Hid (r1 = r) := by
            have := HE.out
            simp only [andThen, hok, Bool.false_eq_true, if_false, Option.some.injEq] at this
            exact this
          have HO : Hid _ := hok
          clear hok HE
          go_wp2_with fail
          refine (s3 _ B pb v _ _ _ r1 HP.out HR.out).mono ?_
          rintro e w1 ⟨rfl, hb1, hp1⟩
          rw [HO.out]
          go_wp2_with fail
          go_ret
          rw [← hrr.out, HO.out]
          exact ⟨rfl, HW.out.trans hb1, hp1⟩
        · have HO : Hid _ := hok
          by_cases hin : kindAt r1.ts r1.i ∈ [16, 17, 20]
          · obtain ⟨hB, hI⟩ := tk_yes r1.i hin
            have h2 : Hid (prs g 1 r1.ts (r1.i + 1) r1.d = some r) := by
              have := HE.out
              simp only [andThen, hok, if_true, if_pos hin] at this
              exact this
            have HB : Hid _ := hB
            have HI : Hid _ := hI
            clear hok HE hin hB hI
            go_wp2_with fail
            refine (s3 _ B pb v _ _ _ r1 HP.out HR.out).mono ?_
            rintro e w1 ⟨rfl, hb1, hp1⟩
            rw [HO.out]
            have HP1 : Hid _ := hp1
            have HB1 : Hid _ := hb1
            clear hp1 hb1
            go_wp2_with fail
            refine (take3 16 17 20 (by decide) (by decide) (by decide) _ B pb v _ _ _ HP1).mono ?_
            rintro e w2 ⟨rfl, hb2, hp2⟩
            rw [HB.out]
            rw [HI.out] at hp2
            have HP2 : Hid _ := hp2
            have HB2 : Hid _ := hb2
            clear hp2 hb2
            go_wp2_with fail
            go_roundg g
            case measure => omega
            case rel => exact ⟨r1.ts, r1.i + 1, r1.d, by omega, HP2, (HW.out.trans HB1.out).trans HB2.out, h2⟩
          · obtain ⟨hB, hI⟩ := tk_no r1.i hin
            have hrr : Hid (⟨true, r1.ts, r1.i, r1.d⟩ = r) := by
              have := HE.out
              simp only [andThen, hok, if_true, if_neg hin, Option.some.injEq] at this
              exact this
            have HB : Hid _ := hB
            have HI : Hid _ := hI
            clear hok HE hin hB hI
            go_wp2_with fail
            refine (s3 _ B pb v _ _ _ r1 HP.out HR.out).mono ?_
            rintro e w1 ⟨rfl, hb1, hp1⟩
            rw [HO.out]
            have HP1 : Hid _ := hp1
            have HB1 : Hid _ := hb1
            clear hp1 hb1
            go_wp2_with fail
            refine (take3 16 17 20 (by decide) (by decide) (by decide) _ B pb v _ _ _ HP1).mono ?_
            rintro e w2 ⟨rfl, hb2, hp2⟩
            rw [HB.out]
            rw [HI.out] at hp2
            go_wp2_with fail
            go_ret
            rw [← hrr.out]
            exact ⟨rfl, (HW.out.trans HB1.out).trans hb2, hp2⟩
set_option maxHeartbeats 1000000 in
theorem product_step (f : Nat) (s2 : ∀ g, g ≤ f → Cal 188 3 g) : Cal 155 2 (f + 1) := by
  intro w B pb v ts i d r hpw he
  go_enter Tryz.func155, Tryz.ntmps155
  go_wp2_with fail
  go_loopg [3] (f + 1) (fun g _ wr => ∃ (ts' : List Tk) (i' d' : Nat), g ≤ f + 1 ∧ Hid (PW wr B pb v ts' i' d') ∧ Hid (Below B w wr) ∧ Hid (prs g 2 ts' i' d' = some r))
  case atStart => exact ⟨ts, i, d, Nat.le_refl _, hpw, Below.refl _ _, he⟩
  case round =>
    obtain ⟨ts', i', d', hg, HP, HW, he'⟩ := hrel
    clear hpw he
    match gk, hg, he' with
    | 0, _, he' => exact absurd he'.out (by simp [prs])
    | g + 1, hg, he' =>
      have he := he'.out
      clear he'
      rw [prs2] at he
      match hr : prs g 3 ts' i' d' with
      | none => rw [hr] at he; simp [andThen] at he
      | some r1 =>
        rw [hr] at he
        have HR : Hid _ := hr
        have HE : Hid _ := he
        have s3 := s2 g (by omega)
        clear hr he s2
        cases hok : r1.ok
        · have hrr : Hid (r1 = r) := by
            have := HE.out
            simp only [andThen, hok, Bool.false_eq_true, if_false, Option.some.injEq] at this
            exact this
          have HO : Hid _ := hok
          clear hok HE
          go_wp2_with fail
          refine (s3 _ B pb v _ _ _ r1 HP.out HR.out).mono ?_
          rintro e w1 ⟨rfl, hb1, hp1⟩
          rw [HO.out]
          go_wp2_with fail
          go_ret
          rw [← hrr.out, HO.out]
          exact ⟨rfl, HW.out.trans hb1, hp1⟩
        · have HO : Hid _ := hok
          by_cases hin : kindAt r1.ts r1.i ∈ [18, 19]
          · obtain ⟨hB, hI⟩ := tk_yes r1.i hin
            have h2 : Hid (prs g 2 r1.ts (r1.i + 1) r1.d = some r) := by
              have := HE.out
              simp only [andThen, hok, if_true, if_pos hin] at this
              exact this
            have HB : Hid _ := hB
            have HI : Hid _ := hI
            clear hok HE hin hB hI
            go_wp2_with fail
            refine (s3 _ B pb v _ _ _ r1 HP.out HR.out).mono ?_
            rintro e w1 ⟨rfl, hb1, hp1⟩
            rw [HO.out]
            have HP1 : Hid _ := hp1
            have HB1 : Hid _ := hb1
            clear hp1 hb1
            go_wp2_with fail
            refine (take2 18 19 (by decide) (by decide) _ B pb v _ _ _ HP1).mono ?_
            rintro e w2 ⟨rfl, hb2, hp2⟩
            rw [HB.out]
            rw [HI.out] at hp2
            have HP2 : Hid _ := hp2
            have HB2 : Hid _ := hb2
            clear hp2 hb2
            go_wp2_with fail
            go_roundg g
            case measure => omega
            case rel => exact ⟨r1.ts, r1.i + 1, r1.d, by omega, HP2, (HW.out.trans HB1.out).trans HB2.out, h2⟩
          · obtain ⟨hB, hI⟩ := tk_no r1.i hin
            have hrr : Hid (⟨true, r1.ts, r1.i, r1.d⟩ = r) := by
              have := HE.out
              simp only [andThen, hok, if_true, if_neg hin, Option.some.injEq] at this
              exact this
            have HB : Hid _ := hB
            have HI : Hid _ := hI
            clear hok HE hin hB hI
            go_wp2_with fail
            refine (s3 _ B pb v _ _ _ r1 HP.out HR.out).mono ?_
            rintro e w1 ⟨rfl, hb1, hp1⟩
            rw [HO.out]
            have HP1 : Hid _ := hp1
            have HB1 : Hid _ := hb1
            clear hp1 hb1
            go_wp2_with fail
            refine (take2 18 19 (by decide) (by decide) _ B pb v _ _ _ HP1).mono ?_
            rintro e w2 ⟨rfl, hb2, hp2⟩
            rw [HB.out]
            rw [HI.out] at hp2
            go_wp2_with fail
            go_ret
            rw [← hrr.out]
            exact ⟨rfl, (HW.out.trans HB1.out).trans hb2, hp2⟩

theorem prs5 (f : Nat) (ts : List Tk) (i d : Nat) : prs (f + 1) 5 ts i d = wants 5 ts i d fun ts i d => wants 15 ts i d fun ts i d => wants 5 ts i d fun ts i d => some ⟨true, ts, i, d⟩ := rfl
theorem one_yes {q k : Int} (i : Nat) (h : k = q) : tkB [q] k = true ∧ tkI [q] k i = i + 1 := tk_yes i (by simpa using h)
theorem one_no {q k : Int} (i : Nat) (h : ¬ k = q) : tkB [q] k = false ∧ tkI [q] k i = i := tk_no i (by simpa using h)

set_option maxHeartbeats 1000000 in
theorem corners_step (f : Nat) : Cal 212 5 (f + 1) := by
  intro w B pb v ts i d r hpw he
  rw [prs5] at he
  have HP : Hid _ := hpw
  unfold wants at he
  have HE : Hid _ := he
  clear hpw he
  by_cases h1 : kindAt ts i = 5
  · obtain ⟨hB1, hI1⟩ := one_yes i h1
    have HBa : Hid _ := hB1
    have HIa : Hid _ := hI1
    by_cases h2 : kindAt ts (i + 1) = 15
    · obtain ⟨hB2, hI2⟩ := one_yes (i + 1) h2
      have HBb : Hid _ := hB2
      have HIb : Hid _ := hI2
      by_cases h3 : kindAt ts (i + 1 + 1) = 5
      · obtain ⟨hB3, hI3⟩ := one_yes (i + 1 + 1) h3
        have HBc : Hid _ := hB3
        have HIc : Hid _ := hI3
        have hrr : Hid (⟨true, ts, i + 1 + 1 + 1, d⟩ = r) := by
          have := HE.out
          simp only [if_pos h1, if_pos h2, if_pos h3, Option.some.injEq] at this
          exact this
        clear HE h1 h2 h3 hB1 hI1 hB2 hI2 hB3 hI3
        go_enter Tryz.func212, Tryz.ntmps212
        go_wp2_with fail
        refine (take1 5 (by decide) _ B pb v _ _ _ HP).mono ?_
        rintro e w1 ⟨rfl, hb1, hp1⟩
        rw [HBa.out]
        rw [HIa.out] at hp1
        have HP1 : Hid _ := hp1
        clear hp1
        go_wp2_with fail
        refine (take1 15 (by decide) _ B pb v _ _ _ HP1).mono ?_
        rintro e w2 ⟨rfl, hb2, hp2⟩
        rw [HBb.out]
        rw [HIb.out] at hp2
        have HP2 : Hid _ := hp2
        clear hp2
        go_wp2_with fail
        refine (take1 5 (by decide) _ B pb v _ _ _ HP2).mono ?_
        rintro e w3 ⟨rfl, hb3, hp3⟩
        rw [HBc.out]
        rw [HIc.out] at hp3
        go_wp2_with fail
        go_ret
        rw [← hrr.out]
        exact ⟨rfl, (hb1.trans hb2).trans hb3, hp3⟩
      · obtain ⟨hB3, hI3⟩ := one_no (i + 1 + 1) h3
        have HBc : Hid _ := hB3
        have HIc : Hid _ := hI3
        have hrr : Hid (⟨false, ts, i + 1 + 1, d⟩ = r) := by
          have := HE.out
          simp only [if_pos h1, if_pos h2, if_neg h3, Option.some.injEq] at this
          exact this
        clear HE h1 h2 h3 hB1 hI1 hB2 hI2 hB3 hI3
        go_enter Tryz.func212, Tryz.ntmps212
        go_wp2_with fail
        refine (take1 5 (by decide) _ B pb v _ _ _ HP).mono ?_
        rintro e w1 ⟨rfl, hb1, hp1⟩
        rw [HBa.out]
        rw [HIa.out] at hp1
        have HP1 : Hid _ := hp1
        clear hp1
        go_wp2_with fail
        refine (take1 15 (by decide) _ B pb v _ _ _ HP1).mono ?_
        rintro e w2 ⟨rfl, hb2, hp2⟩
        rw [HBb.out]
        rw [HIb.out] at hp2
        have HP2 : Hid _ := hp2
        clear hp2
        go_wp2_with fail
        refine (take1 5 (by decide) _ B pb v _ _ _ HP2).mono ?_
        rintro e w3 ⟨rfl, hb3, hp3⟩
        rw [HBc.out]
        rw [HIc.out] at hp3
        go_wp2_with fail
        go_ret
        rw [← hrr.out]
        exact ⟨rfl, (hb1.trans hb2).trans hb3, hp3⟩
    · obtain ⟨hB2, hI2⟩ := one_no (i + 1) h2
      have HBb : Hid _ := hB2
      have HIb : Hid _ := hI2
      have hrr : Hid (⟨false, ts, i + 1, d⟩ = r) := by
        have := HE.out
        simp only [if_pos h1, if_neg h2, Option.some.injEq] at this
        exact this
      clear HE h1 h2 hB1 hI1 hB2 hI2
      go_enter Tryz.func212, Tryz.ntmps212
      go_wp2_with fail
      refine (take1 5 (by decide) _ B pb v _ _ _ HP).mono ?_
      rintro e w1 ⟨rfl, hb1, hp1⟩
      rw [HBa.out]
      rw [HIa.out] at hp1
      have HP1 : Hid _ := hp1
      clear hp1
      go_wp2_with fail
      refine (take1 15 (by decide) _ B pb v _ _ _ HP1).mono ?_
      rintro e w2 ⟨rfl, hb2, hp2⟩
      rw [HBb.out]
      rw [HIb.out] at hp2
      go_wp2_with fail
      go_ret
      rw [← hrr.out]
      exact ⟨rfl, hb1.trans hb2, hp2⟩
  · obtain ⟨hB1, hI1⟩ := one_no i h1
    have HBa : Hid _ := hB1
    have HIa : Hid _ := hI1
    have hrr : Hid (⟨false, ts, i, d⟩ = r) := by
      have := HE.out
      simp only [if_neg h1, Option.some.injEq] at this
      exact this
    clear HE h1 hB1 hI1
    go_enter Tryz.func212, Tryz.ntmps212
    go_wp2_with fail
    refine (take1 5 (by decide) _ B pb v _ _ _ HP).mono ?_
    rintro e w1 ⟨rfl, hb1, hp1⟩
    rw [HBa.out]
    rw [HIa.out] at hp1
    go_wp2_with fail
    go_ret
    rw [← hrr.out]
    exact ⟨rfl, hb1, hp1⟩
end Go.Proofs.YtiocnfambeochaaGreatDoor

/- The parser's functions 'choice', 'bracketed', 'atom'. -/
namespace Go.Proofs.YtiocnfambeochaaGreatDoor
open Go.RowKit

theorem and_cases {x : Option PR} {k : List Tk → Nat → Nat → Option PR} {r : PR} (h : andThen x k = some r) : ∃ r1, x = some r1 ∧ ((r1.ok = false ∧ r1 = r) ∨ (r1.ok = true ∧ k r1.ts r1.i r1.d = some r)) := by
  match x, h with
  | none, h => simp [andThen] at h
  | some r1, h =>
    refine ⟨r1, rfl, ?_⟩
    cases hok : r1.ok
    · simp only [andThen, hok, Bool.false_eq_true, if_false, Option.some.injEq] at h
      exact Or.inl ⟨rfl, h⟩
    · simp only [andThen, hok, if_true] at h
      exact Or.inr ⟨rfl, h⟩
theorem wants_cases {q : Int} {ts : List Tk} {i d : Nat} {k : List Tk → Nat → Nat → Option PR} {r : PR} (h : wants q ts i d k = some r) :
    (tkB [q] (kindAt ts i) = false ∧ tkI [q] (kindAt ts i) i = i ∧ ⟨false, ts, i, d⟩ = r) ∨ (tkB [q] (kindAt ts i) = true ∧ tkI [q] (kindAt ts i) i = i + 1 ∧ k ts (i + 1) d = some r) := by
  unfold wants at h
  by_cases hq : kindAt ts i = q
  · rw [if_pos hq] at h
    exact Or.inr ⟨(one_yes i hq).1, (one_yes i hq).2, h⟩
  · rw [if_neg hq, Option.some.injEq] at h
    exact Or.inl ⟨(one_no i hq).1, (one_no i hq).2, h⟩

theorem prs4 (f : Nat) (ts : List Tk) (i d : Nat) : prs (f + 1) 4 ts i d = andThen (prs f 0 ts i d) fun ts i d => wants 14 ts i d fun ts i d => andThen (prs f 0 ts i d) fun ts i d => wants 14 ts i d fun ts i d => prs f 0 ts i d := rfl

set_option maxHeartbeats 2000000 in
theorem choice_step (f : Nat) (s0 : Cal 93 0 f) : Cal 211 4 (f + 1) := by
  intro w B pb v ts i d r hpw he
  rw [prs4] at he
  obtain ⟨r1, hr1, hc1⟩ := and_cases he
  have HP : Hid _ := hpw
  have HR1 : Hid _ := hr1
  have HC1 : Hid _ := hc1
  clear hpw he hr1 hc1
  go_enter Tryz.func211, Tryz.ntmps211
  go_wp2_with fail
  refine (s0 _ B pb v ts i d r1 HP.out HR1.out).mono ?_
  rintro e w1 ⟨rfl, hb1, hp1⟩
  rcases HC1.out with ⟨hok, hrr⟩ | ⟨hok, hk1⟩
  · have HO : Hid _ := hok
    have HRR : Hid _ := hrr
    clear HC1 hok hrr
    rw [HO.out]
    go_wp2_with fail
    go_ret
    rw [← HRR.out, HO.out]
    exact ⟨rfl, hb1, hp1⟩
  have HO : Hid _ := hok
  have HK1 : Hid _ := hk1
  have HP1 : Hid _ := hp1
  have HB1 : Hid _ := hb1
  clear HC1 hok hk1 hp1 hb1
  rw [HO.out]
  go_wp2_with fail
  refine (take1 14 (by decide) _ B pb v _ _ _ HP1).mono ?_
  rintro e w2 ⟨rfl, hb2, hp2⟩
  rcases wants_cases HK1.out with ⟨hB, hI, hrr⟩ | ⟨hB, hI, hk2⟩
  · have HBB : Hid _ := hB
    rw [hI] at hp2
    clear HK1 hB hI
    rw [HBB.out]
    have HRR : Hid _ := hrr
    clear hrr
    go_wp2_with fail
    go_ret
    rw [← HRR.out]
    exact ⟨rfl, HB1.out.trans hb2, hp2⟩
  have HBB : Hid _ := hB
  rw [hI] at hp2
  have HB2 : Hid (Below B w w2) := HB1.out.trans hb2
  have HP2 : Hid _ := hp2
  have HK2 : Hid _ := hk2
  clear HK1 HB1 hB hI hb2 hp2 hk2
  rw [HBB.out]
  obtain ⟨r2, hr2, hc2⟩ := and_cases HK2.out
  have HR2 : Hid _ := hr2
  have HC2 : Hid _ := hc2
  clear HK2 hr2 hc2
  go_wp2_with fail
  refine (s0 _ B pb v _ _ _ r2 HP2.out HR2.out).mono ?_
  rintro e w3 ⟨rfl, hb3, hp3⟩
  rcases HC2.out with ⟨hok, hrr⟩ | ⟨hok, hk3⟩
  · have HO2 : Hid _ := hok
    have HRR : Hid _ := hrr
    clear HC2 hok hrr
    rw [HO2.out]
    go_wp2_with fail
    go_ret
    rw [← HRR.out, HO2.out]
    exact ⟨rfl, HB2.out.trans hb3, hp3⟩
  have HO2 : Hid _ := hok
  have HK3 : Hid _ := hk3
  have HP3 : Hid _ := hp3
  have HB3 : Hid (Below B w w3) := HB2.out.trans hb3
  clear HC2 hok hk3 hp3 hb3 HB2
  rw [HO2.out]
  go_wp2_with fail
  refine (take1 14 (by decide) _ B pb v _ _ _ HP3).mono ?_
  rintro e w4 ⟨rfl, hb4, hp4⟩
  rcases wants_cases HK3.out with ⟨hB, hI, hrr⟩ | ⟨hB, hI, hk4⟩
  · have HBB4 : Hid _ := hB
    rw [hI] at hp4
    clear HK3 hB hI
    rw [HBB4.out]
    have HRR : Hid _ := hrr
    clear hrr
    go_wp2_with fail
    go_ret
    rw [← HRR.out]
    exact ⟨rfl, HB3.out.trans hb4, hp4⟩
  have HBB4 : Hid _ := hB
  rw [hI] at hp4
  have HB4 : Hid (Below B w w4) := HB3.out.trans hb4
  have HP4 : Hid _ := hp4
  have HK4 : Hid _ := hk4
  clear HK3 HB3 hB hI hb4 hp4 hk4
  rw [HBB4.out]
  go_wp2_with fail
  refine (s0 _ B pb v _ _ _ r HP4.out HK4.out).mono ?_
  rintro e w5 ⟨rfl, hb5, hp5⟩
  go_wp2_with fail
  all_goals
    go_ret
    refine ⟨ret_bool ?_, HB4.out.trans hb5, hp5⟩
    simp_all
end Go.Proofs.YtiocnfambeochaaGreatDoor

/- The parser's functions 'bracketed', 'atom'. -/
namespace Go.Proofs.YtiocnfambeochaaGreatDoor
open Go.RowKit


theorem wants_some {q : Int} {ts : List Tk} {i d : Nat} {k : List Tk → Nat → Nat → Option PR} {r : PR} (h : wants q ts i d k = some r) :
    (kindAt ts i ≠ q ∧ ⟨false, ts, i, d⟩ = r) ∨ (kindAt ts i = q ∧ k ts (i + 1) d = some r) := by
  unfold wants at h
  by_cases hq : kindAt ts i = q
  · rw [if_pos hq] at h; exact Or.inr ⟨hq, h⟩
  · rw [if_neg hq, Option.some.injEq] at h; exact Or.inl ⟨hq, h⟩

theorem prs_d : ∀ (f tag : Nat) (ts : List Tk) (i d : Nat) (r : PR), prs f tag ts i d = some r → r.ok = true → r.d = d
  | 0, _, _, _, _, _, h, _ => by simp [prs] at h
  | f + 1, tag, ts, i, d, r, h, hok => by
    have ih := prs_d f
    unfold prs at h
    by_cases t0 : tag = 0
    · rw [if_pos t0] at h
      obtain ⟨r1, e1, ⟨h1, rfl⟩ | ⟨h1, h2⟩⟩ := and_cases h
      · rw [h1] at hok; cases hok
      have d1 := ih _ _ _ _ _ e1 h1
      split at h2
      · rw [ih _ _ _ _ _ h2 hok, d1]
      · cases h2; exact d1
    rw [if_neg t0] at h
    by_cases t1 : tag = 1
    · rw [if_pos t1] at h
      obtain ⟨r1, e1, ⟨h1, rfl⟩ | ⟨h1, h2⟩⟩ := and_cases h
      · rw [h1] at hok; cases hok
      have d1 := ih _ _ _ _ _ e1 h1
      split at h2
      · rw [ih _ _ _ _ _ h2 hok, d1]
      · cases h2; exact d1
    rw [if_neg t1] at h
    by_cases t2 : tag = 2
    · rw [if_pos t2] at h
      obtain ⟨r1, e1, ⟨h1, rfl⟩ | ⟨h1, h2⟩⟩ := and_cases h
      · rw [h1] at hok; cases hok
      have d1 := ih _ _ _ _ _ e1 h1
      split at h2
      · rw [ih _ _ _ _ _ h2 hok, d1]
      · cases h2; exact d1
    rw [if_neg t2] at h
    by_cases t3 : tag = 3
    · rw [if_pos t3] at h
      generalize (ngs 8 ts i).1 = us at *
      generalize (ngs 8 ts i).2 = j at *
      by_cases k1 : kindAt us j ∈ [1, 2, 3, 4, 5]
      · rw [if_pos k1] at h; cases h; rfl
      rw [if_neg k1] at h
      by_cases k2 : kindAt us j = 12
      · rw [if_pos k2] at h; exact ih _ _ _ _ _ h hok
      rw [if_neg k2] at h
      by_cases k3 : kindAt us j = 6
      · rw [if_pos k3] at h; exact ih _ _ _ _ _ h hok
      rw [if_neg k3] at h
      by_cases k4 : kindAt us j ∈ [7, 8]
      · rw [if_pos k4] at h; exact ih _ _ _ _ _ h hok
      rw [if_neg k4] at h
      by_cases k5 : kindAt us j ∈ [9, 10]
      · rw [if_pos k5] at h; exact ih _ _ _ _ _ h hok
      rw [if_neg k5] at h
      cases h; cases hok
    rw [if_neg t3] at h
    by_cases t4 : tag = 4
    · rw [if_pos t4] at h
      obtain ⟨r1, e1, ⟨h1, rfl⟩ | ⟨h1, h2⟩⟩ := and_cases h
      · rw [h1] at hok; cases hok
      have d1 := ih _ _ _ _ _ e1 h1
      rcases wants_some h2 with ⟨_, rfl⟩ | ⟨_, h3⟩
      · cases hok
      obtain ⟨r2, e2, ⟨h4, rfl⟩ | ⟨h4, h5⟩⟩ := and_cases h3
      · rw [h4] at hok; cases hok
      have d2 := ih _ _ _ _ _ e2 h4
      rcases wants_some h5 with ⟨_, rfl⟩ | ⟨_, h6⟩
      · cases hok
      rw [ih _ _ _ _ _ h6 hok, d2, d1]
    rw [if_neg t4] at h
    by_cases t5 : tag = 5
    · rw [if_pos t5] at h
      rcases wants_some h with ⟨_, rfl⟩ | ⟨_, h⟩
      · cases hok
      rcases wants_some h with ⟨_, rfl⟩ | ⟨_, h⟩
      · cases hok
      rcases wants_some h with ⟨_, rfl⟩ | ⟨_, h⟩
      · cases hok
      cases h; rfl
    rw [if_neg t5] at h
    by_cases t8 : d = 8
    · rw [if_pos t8] at h; cases h; cases hok
    rw [if_neg t8] at h
    rcases wants_some h with ⟨_, rfl⟩ | ⟨_, h⟩
    · cases hok
    obtain ⟨r1, e1, ⟨h1, rfl⟩ | ⟨h1, h2⟩⟩ := and_cases h
    · rw [h1] at hok; cases hok
    have d1 := ih _ _ _ _ _ e1 h1
    rcases wants_some h2 with ⟨_, rfl⟩ | ⟨_, h3⟩
    · cases hok
    cases h3
    show r1.d - 1 = d
    omega

def CalB (fi tag f : Nat) : Prop := ∀ (w : World) (B pb : Nat) (v : Value) (ts : List Tk) (i d : Nat) (r : PR), PW w B pb v ts i d → prs f tag ts i d = some r →
  Calls Tryz.prog 210 #[.pointer (some ⟨pb, 0, none⟩), .func (Fn.func fi) #[.pointer (some ⟨pb, 0, none⟩)] #[]] w fun e w' => e = .returned (.bool r.ok) ∧ Below B w w' ∧ PW w' B pb v r.ts r.i r.d

theorem prs6 (f : Nat) (ts : List Tk) (i d : Nat) : prs (f + 1) 6 ts i d = if d = 8 then some ⟨false, ts, i, d⟩
    else wants 12 ts i d fun ts i d => andThen (prs f 0 ts i (d + 1)) fun ts i d => wants 13 ts i d fun ts i d => some ⟨true, ts, i, d - 1⟩ := rfl

set_option maxHeartbeats 2000000 in
theorem bracketed14_step (f : Nat) (s0 : Cal 93 0 f) : CalB 93 6 (f + 1) := by
  intro w B pb v ts i d r hpw he
  rw [prs6] at he
  have HP : Hid _ := hpw
  have hd8 := hpw.deep
  have c2 := hpw.c2
  have f2 := hpw.free 2
  by_cases h8 : d = 8
  · rw [if_pos h8, Option.some.injEq] at he
    have HRR : Hid _ := he
    have h88 : ((d : Int) == 8) = true := by simpa using (by omega : (d : Int) = 8)
    clear he hpw h8
    go_enter Tryz.func210, Tryz.ntmps210
    go_wp2_with fail
    go_ret
    rw [← HRR.out]
    exact ⟨rfl, Below.refl _ _, HP.out⟩
  rw [if_neg h8] at he
  have h88 : ((d : Int) == 8) = false := by simpa using (by omega : (d : Int) ≠ 8)
  have hdl : d < 8 := by omega
  have HW : Hid _ := he
  clear he hpw h8
  go_enter Tryz.func210, Tryz.ntmps210
  go_wp2_with fail
  refine (take1 12 (by decide) _ B pb v _ _ _ HP).mono ?_
  rintro e w1 ⟨rfl, hb1, hp1⟩
  rcases wants_cases HW.out with ⟨hB, hI, hrr⟩ | ⟨hB, hI, hk1⟩
  · have HBB : Hid _ := hB
    rw [hI] at hp1
    have HRR : Hid _ := hrr
    clear HW hB hI hrr
    rw [HBB.out]
    go_wp2_with fail
    go_ret
    rw [← HRR.out]
    exact ⟨rfl, hb1, hp1⟩
  have HBB : Hid _ := hB
  rw [hI] at hp1
  have HB1 : Hid _ := hb1
  have HP1 : Hid _ := hp1
  have HK1 : Hid _ := hk1
  clear HW hB hI hb1 hp1 hk1 c2 f2
  have c2 := HP1.out.c2
  have f2 := HP1.out.free 2
  rw [HBB.out]
  obtain ⟨r1, hr1, hc1⟩ := and_cases HK1.out
  have HR1 : Hid _ := hr1
  have HC1 : Hid _ := hc1
  clear HK1 hr1 hc1
  have HP2 : Hid (PW (w1.setCell ⟨pb, 2, none⟩ (.int .i64 ((d : Int) + 1))) B pb v ts (i + 1) (d + 1)) := HP1.out.depth (d + 1) (by omega)
  have HB2 : Hid (Below B w (w1.setCell ⟨pb, 2, none⟩ (.int .i64 ((d : Int) + 1)))) := HB1.out.setCell HP1.out.low _
  go_wp2_with fail
  refine (s0 _ B pb v _ _ _ r1 HP2.out HR1.out).mono ?_
  rintro e w2 ⟨rfl, hb2, hp2⟩
  have HB3 : Hid (Below B w w2) := HB2.out.trans hb2
  have HP3 : Hid _ := hp2
  clear hb2 hp2 HB1 HB2 HP2 c2 f2
  rcases HC1.out with ⟨hok, hrr⟩ | ⟨hok, hk3⟩
  · have HO : Hid _ := hok
    have HRR : Hid _ := hrr
    clear HC1 hok hrr
    rw [HO.out]
    go_wp2_with fail
    go_ret
    rw [← HRR.out, HO.out]
    exact ⟨rfl, HB3.out, HP3.out⟩
  have HDP : Hid (r1.d = d + 1) := prs_d _ _ _ _ _ _ HR1.out hok
  have HO : Hid _ := hok
  have HK3 : Hid _ := hk3
  clear HC1 hok hk3
  rw [HO.out]
  go_wp2_with fail
  refine (take1 13 (by decide) _ B pb v _ _ _ HP3).mono ?_
  rintro e w3 ⟨rfl, hb4, hp4⟩
  rcases wants_cases HK3.out with ⟨hB, hI, hrr⟩ | ⟨hB, hI, hk4⟩
  · have HBB4 : Hid _ := hB
    rw [hI] at hp4
    have HRR : Hid _ := hrr
    clear HK3 hB hI hrr
    rw [HBB4.out]
    go_wp2_with fail
    go_ret
    rw [← HRR.out]
    exact ⟨rfl, HB3.out.trans hb4, hp4⟩
  have HBB4 : Hid _ := hB
  rw [hI] at hp4
  rw [Option.some.injEq] at hk4
  have HRR : Hid _ := hk4
  have HB4 : Hid (Below B w w3) := HB3.out.trans hb4
  have HP4 : Hid _ := hp4
  clear HK3 hB hI hk4 hb4 hp4 HB3
  have c2 := HP4.out.c2
  have f2 := HP4.out.free 2
  have hd1 := HP4.out.deep
  obtain ⟨dd, hdd⟩ : ∃ dd, r1.d = dd + 1 := ⟨r1.d - 1, by have := HDP.out; omega⟩
  rw [hdd] at c2
  rw [HBB4.out]
  go_wp2_with fail
  go_ret
  rw [← HRR.out]
  refine ⟨rfl, HB4.out.setCell HP4.out.low _, ?_⟩
  rw [hdd]
  exact HP4.out.depth dd (by omega)

theorem prs7 (f : Nat) (ts : List Tk) (i d : Nat) : prs (f + 1) 7 ts i d = if d = 8 then some ⟨false, ts, i, d⟩
    else wants 12 ts i d fun ts i d => andThen (prs f 4 ts i (d + 1)) fun ts i d => wants 13 ts i d fun ts i d => some ⟨true, ts, i, d - 1⟩ := rfl

set_option maxHeartbeats 2000000 in
theorem bracketed68_step (f : Nat) (s0 : Cal 211 4 f) : CalB 211 7 (f + 1) := by
  intro w B pb v ts i d r hpw he
  rw [prs7] at he
  have HP : Hid _ := hpw
  have hd8 := hpw.deep
  have c2 := hpw.c2
  have f2 := hpw.free 2
  by_cases h8 : d = 8
  · rw [if_pos h8, Option.some.injEq] at he
    have HRR : Hid _ := he
    have h88 : ((d : Int) == 8) = true := by simpa using (by omega : (d : Int) = 8)
    clear he hpw h8
    go_enter Tryz.func210, Tryz.ntmps210
    go_wp2_with fail
    go_ret
    rw [← HRR.out]
    exact ⟨rfl, Below.refl _ _, HP.out⟩
  rw [if_neg h8] at he
  have h88 : ((d : Int) == 8) = false := by simpa using (by omega : (d : Int) ≠ 8)
  have hdl : d < 8 := by omega
  have HW : Hid _ := he
  clear he hpw h8
  go_enter Tryz.func210, Tryz.ntmps210
  go_wp2_with fail
  refine (take1 12 (by decide) _ B pb v _ _ _ HP).mono ?_
  rintro e w1 ⟨rfl, hb1, hp1⟩
  rcases wants_cases HW.out with ⟨hB, hI, hrr⟩ | ⟨hB, hI, hk1⟩
  · have HBB : Hid _ := hB
    rw [hI] at hp1
    have HRR : Hid _ := hrr
    clear HW hB hI hrr
    rw [HBB.out]
    go_wp2_with fail
    go_ret
    rw [← HRR.out]
    exact ⟨rfl, hb1, hp1⟩
  have HBB : Hid _ := hB
  rw [hI] at hp1
  have HB1 : Hid _ := hb1
  have HP1 : Hid _ := hp1
  have HK1 : Hid _ := hk1
  clear HW hB hI hb1 hp1 hk1 c2 f2
  have c2 := HP1.out.c2
  have f2 := HP1.out.free 2
  rw [HBB.out]
  obtain ⟨r1, hr1, hc1⟩ := and_cases HK1.out
  have HR1 : Hid _ := hr1
  have HC1 : Hid _ := hc1
  clear HK1 hr1 hc1
  have HP2 : Hid (PW (w1.setCell ⟨pb, 2, none⟩ (.int .i64 ((d : Int) + 1))) B pb v ts (i + 1) (d + 1)) := HP1.out.depth (d + 1) (by omega)
  have HB2 : Hid (Below B w (w1.setCell ⟨pb, 2, none⟩ (.int .i64 ((d : Int) + 1)))) := HB1.out.setCell HP1.out.low _
  go_wp2_with fail
  refine (s0 _ B pb v _ _ _ r1 HP2.out HR1.out).mono ?_
  rintro e w2 ⟨rfl, hb2, hp2⟩
  have HB3 : Hid (Below B w w2) := HB2.out.trans hb2
  have HP3 : Hid _ := hp2
  clear hb2 hp2 HB1 HB2 HP2 c2 f2
  rcases HC1.out with ⟨hok, hrr⟩ | ⟨hok, hk3⟩
  · have HO : Hid _ := hok
    have HRR : Hid _ := hrr
    clear HC1 hok hrr
    rw [HO.out]
    go_wp2_with fail
    go_ret
    rw [← HRR.out, HO.out]
    exact ⟨rfl, HB3.out, HP3.out⟩
  have HDP : Hid (r1.d = d + 1) := prs_d _ _ _ _ _ _ HR1.out hok
  have HO : Hid _ := hok
  have HK3 : Hid _ := hk3
  clear HC1 hok hk3
  rw [HO.out]
  go_wp2_with fail
  refine (take1 13 (by decide) _ B pb v _ _ _ HP3).mono ?_
  rintro e w3 ⟨rfl, hb4, hp4⟩
  rcases wants_cases HK3.out with ⟨hB, hI, hrr⟩ | ⟨hB, hI, hk4⟩
  · have HBB4 : Hid _ := hB
    rw [hI] at hp4
    have HRR : Hid _ := hrr
    clear HK3 hB hI hrr
    rw [HBB4.out]
    go_wp2_with fail
    go_ret
    rw [← HRR.out]
    exact ⟨rfl, HB3.out.trans hb4, hp4⟩
  have HBB4 : Hid _ := hB
  rw [hI] at hp4
  rw [Option.some.injEq] at hk4
  have HRR : Hid _ := hk4
  have HB4 : Hid (Below B w w3) := HB3.out.trans hb4
  have HP4 : Hid _ := hp4
  clear HK3 hB hI hk4 hb4 hp4 HB3
  have c2 := HP4.out.c2
  have f2 := HP4.out.free 2
  have hd1 := HP4.out.deep
  obtain ⟨dd, hdd⟩ : ∃ dd, r1.d = dd + 1 := ⟨r1.d - 1, by have := HDP.out; omega⟩
  rw [hdd] at c2
  rw [HBB4.out]
  go_wp2_with fail
  go_ret
  rw [← HRR.out]
  refine ⟨rfl, HB4.out.setCell HP4.out.low _, ?_⟩
  rw [hdd]
  exact HP4.out.depth dd (by omega)

theorem prs8 (f : Nat) (ts : List Tk) (i d : Nat) : prs (f + 1) 8 ts i d = if d = 8 then some ⟨false, ts, i, d⟩
    else wants 12 ts i d fun ts i d => andThen (prs f 5 ts i (d + 1)) fun ts i d => wants 13 ts i d fun ts i d => some ⟨true, ts, i, d - 1⟩ := rfl

set_option maxHeartbeats 2000000 in
theorem bracketed69_step (f : Nat) (s0 : Cal 212 5 f) : CalB 212 8 (f + 1) := by
  intro w B pb v ts i d r hpw he
  rw [prs8] at he
  have HP : Hid _ := hpw
  have hd8 := hpw.deep
  have c2 := hpw.c2
  have f2 := hpw.free 2
  by_cases h8 : d = 8
  · rw [if_pos h8, Option.some.injEq] at he
    have HRR : Hid _ := he
    have h88 : ((d : Int) == 8) = true := by simpa using (by omega : (d : Int) = 8)
    clear he hpw h8
    go_enter Tryz.func210, Tryz.ntmps210
    go_wp2_with fail
    go_ret
    rw [← HRR.out]
    exact ⟨rfl, Below.refl _ _, HP.out⟩
  rw [if_neg h8] at he
  have h88 : ((d : Int) == 8) = false := by simpa using (by omega : (d : Int) ≠ 8)
  have hdl : d < 8 := by omega
  have HW : Hid _ := he
  clear he hpw h8
  go_enter Tryz.func210, Tryz.ntmps210
  go_wp2_with fail
  refine (take1 12 (by decide) _ B pb v _ _ _ HP).mono ?_
  rintro e w1 ⟨rfl, hb1, hp1⟩
  rcases wants_cases HW.out with ⟨hB, hI, hrr⟩ | ⟨hB, hI, hk1⟩
  · have HBB : Hid _ := hB
    rw [hI] at hp1
    have HRR : Hid _ := hrr
    clear HW hB hI hrr
    rw [HBB.out]
    go_wp2_with fail
    go_ret
    rw [← HRR.out]
    exact ⟨rfl, hb1, hp1⟩
  have HBB : Hid _ := hB
  rw [hI] at hp1
  have HB1 : Hid _ := hb1
  have HP1 : Hid _ := hp1
  have HK1 : Hid _ := hk1
  clear HW hB hI hb1 hp1 hk1 c2 f2
  have c2 := HP1.out.c2
  have f2 := HP1.out.free 2
  rw [HBB.out]
  obtain ⟨r1, hr1, hc1⟩ := and_cases HK1.out
  have HR1 : Hid _ := hr1
  have HC1 : Hid _ := hc1
  clear HK1 hr1 hc1
  have HP2 : Hid (PW (w1.setCell ⟨pb, 2, none⟩ (.int .i64 ((d : Int) + 1))) B pb v ts (i + 1) (d + 1)) := HP1.out.depth (d + 1) (by omega)
  have HB2 : Hid (Below B w (w1.setCell ⟨pb, 2, none⟩ (.int .i64 ((d : Int) + 1)))) := HB1.out.setCell HP1.out.low _
  go_wp2_with fail
  refine (s0 _ B pb v _ _ _ r1 HP2.out HR1.out).mono ?_
  rintro e w2 ⟨rfl, hb2, hp2⟩
  have HB3 : Hid (Below B w w2) := HB2.out.trans hb2
  have HP3 : Hid _ := hp2
  clear hb2 hp2 HB1 HB2 HP2 c2 f2
  rcases HC1.out with ⟨hok, hrr⟩ | ⟨hok, hk3⟩
  · have HO : Hid _ := hok
    have HRR : Hid _ := hrr
    clear HC1 hok hrr
    rw [HO.out]
    go_wp2_with fail
    go_ret
    rw [← HRR.out, HO.out]
    exact ⟨rfl, HB3.out, HP3.out⟩
  have HDP : Hid (r1.d = d + 1) := prs_d _ _ _ _ _ _ HR1.out hok
  have HO : Hid _ := hok
  have HK3 : Hid _ := hk3
  clear HC1 hok hk3
  rw [HO.out]
  go_wp2_with fail
  refine (take1 13 (by decide) _ B pb v _ _ _ HP3).mono ?_
  rintro e w3 ⟨rfl, hb4, hp4⟩
  rcases wants_cases HK3.out with ⟨hB, hI, hrr⟩ | ⟨hB, hI, hk4⟩
  · have HBB4 : Hid _ := hB
    rw [hI] at hp4
    have HRR : Hid _ := hrr
    clear HK3 hB hI hrr
    rw [HBB4.out]
    go_wp2_with fail
    go_ret
    rw [← HRR.out]
    exact ⟨rfl, HB3.out.trans hb4, hp4⟩
  have HBB4 : Hid _ := hB
  rw [hI] at hp4
  rw [Option.some.injEq] at hk4
  have HRR : Hid _ := hk4
  have HB4 : Hid (Below B w w3) := HB3.out.trans hb4
  have HP4 : Hid _ := hp4
  clear HK3 hB hI hk4 hb4 hp4 HB3
  have c2 := HP4.out.c2
  have f2 := HP4.out.free 2
  have hd1 := HP4.out.deep
  obtain ⟨dd, hdd⟩ : ∃ dd, r1.d = dd + 1 := ⟨r1.d - 1, by have := HDP.out; omega⟩
  rw [hdd] at c2
  rw [HBB4.out]
  go_wp2_with fail
  go_ret
  rw [← HRR.out]
  refine ⟨rfl, HB4.out.setCell HP4.out.low _, ?_⟩
  rw [hdd]
  exact HP4.out.depth dd (by omega)

end Go.Proofs.YtiocnfambeochaaGreatDoor

/- The parser's function 'atom'; then all of them, at any number of steps. -/
namespace Go.Proofs.YtiocnfambeochaaGreatDoor
open Go.RowKit

theorem prs3 (f : Nat) (ts : List Tk) (i d : Nat) : prs (f + 1) 3 ts i d =
      if kindAt (ngs 8 ts i).1 (ngs 8 ts i).2 ∈ [1, 2, 3, 4, 5] then some ⟨true, (ngs 8 ts i).1, (ngs 8 ts i).2 + 1, d⟩
      else if kindAt (ngs 8 ts i).1 (ngs 8 ts i).2 = 12 then prs f 6 (ngs 8 ts i).1 (ngs 8 ts i).2 d
      else if kindAt (ngs 8 ts i).1 (ngs 8 ts i).2 = 6 then prs f 7 (ngs 8 ts i).1 ((ngs 8 ts i).2 + 1) d
      else if kindAt (ngs 8 ts i).1 (ngs 8 ts i).2 ∈ [7, 8] then prs f 6 (ngs 8 ts i).1 ((ngs 8 ts i).2 + 1) d
      else if kindAt (ngs 8 ts i).1 (ngs 8 ts i).2 ∈ [9, 10] then prs f 8 (ngs 8 ts i).1 ((ngs 8 ts i).2 + 1) d
      else some ⟨false, (ngs 8 ts i).1, (ngs 8 ts i).2, d⟩ := rfl


set_option maxHeartbeats 2000000 in
theorem atom_step (f : Nat) (s6 : CalB 93 6 f) (s7 : CalB 211 7 f) (s8 : CalB 212 8 f) : Cal 188 3 (f + 1) := by
  intro w B pb v ts i d r hpw he
  rw [prs3] at he
  have HP : Hid _ := hpw
  have HE : Hid _ := he
  clear hpw he
  go_enter Tryz.func188, Tryz.ntmps188
  go_wp2_with fail
  refine (negations_any _ B pb v ts i d HP).mono ?_
  rintro e w1 ⟨rfl, hb1, hp1⟩
  generalize (ngs 8 ts i).1 = us at *
  generalize (ngs 8 ts i).2 = j at *
  have HP1 : Hid _ := hp1
  have HB1 : Hid _ := hb1
  clear hp1 hb1
  go_wp2_with fail
  refine (kind_any _ B pb v _ _ _ HP1).mono ?_
  rintro e w2 ⟨rfl, n, rfl⟩
  have hle := HP1.out.le
  have hsm := HP1.out.small
  obtain ⟨q, hq⟩ : ∃ q, kindAt us j = q := ⟨_, rfl⟩
  have HQ : Hid _ := hq
  have hE2 := HE.out
  rw [hq] at hE2 ⊢
  clear hq HE
  have c1 := HP1.out.c1
  have f1 := HP1.out.free 1
  have HL : Hid (q ≠ 0 → j < us.length) := by unfold Hid; rw [← HQ.out]; exact kindAt_lt
  have HN : Hid (j < us.length → PW ((w1.drewN n).setCell ⟨pb, 1, none⟩ (.int .i64 ((j : Int) + 1))) B pb v us (j + 1) d) := fun h => (HP1.out.drewN n).next (j + 1) h
  have HBN : Hid (Below B w ((w1.drewN n).setCell ⟨pb, 1, none⟩ (.int .i64 ((j : Int) + 1)))) := (below_drewN HB1.out n).setCell HP1.out.low _
  by_cases k1 : q ∈ [1, 2, 3, 4, 5]
  · rw [if_pos k1, Option.some.injEq] at hE2
    have HRR : Hid _ := hE2
    have hjl := HL.out (by intro h; rw [h] at k1; simp at k1)
    clear hE2 HQ HL
    simp only [List.mem_cons, List.not_mem_nil, or_false] at k1
    rcases k1 with rfl | rfl | rfl | rfl | rfl
    all_goals
      go_wp2_with fail
      go_ret
      rw [← HRR.out]
      exact ⟨rfl, HBN.out, HN.out hjl⟩
  rw [if_neg k1] at hE2
  by_cases k2 : q = 12
  · rw [if_pos k2] at hE2
    have HR : Hid _ := hE2
    clear hE2 HQ HL HN HBN k1
    subst k2
    go_wp2_with fail
    refine (s6 _ B pb v _ _ _ r (HP1.out.drewN n) HR.out).mono ?_
    rintro e w3 ⟨rfl, hb3, hp3⟩
    go_wp2_with fail
    go_ret
    exact ⟨rfl, (below_drewN HB1.out n).trans hb3, hp3⟩
  rw [if_neg k2] at hE2
  by_cases k3 : q = 6
  · rw [if_pos k3] at hE2
    have HR : Hid _ := hE2
    have hjl := HL.out (by omega)
    clear hE2 HQ HL k1 k2
    subst k3
    go_wp2_with fail
    refine (s7 _ B pb v _ _ _ r (HN.out hjl) HR.out).mono ?_
    rintro e w3 ⟨rfl, hb3, hp3⟩
    go_wp2_with fail
    go_ret
    exact ⟨rfl, HBN.out.trans hb3, hp3⟩
  rw [if_neg k3] at hE2
  by_cases k4 : q ∈ [7, 8]
  · rw [if_pos k4] at hE2
    have HR : Hid _ := hE2
    simp only [List.mem_cons, List.not_mem_nil, or_false] at k4
    have hjl := HL.out (by omega)
    clear hE2 HQ HL k1 k2 k3
    rcases k4 with rfl | rfl
    all_goals
      go_wp2_with fail
      refine (s6 _ B pb v _ _ _ r (HN.out hjl) HR.out).mono ?_
      rintro e w3 ⟨rfl, hb3, hp3⟩
      go_wp2_with fail
      go_ret
      exact ⟨rfl, HBN.out.trans hb3, hp3⟩
  rw [if_neg k4] at hE2
  by_cases k5 : q ∈ [9, 10]
  · rw [if_pos k5] at hE2
    have HR : Hid _ := hE2
    simp only [List.mem_cons, List.not_mem_nil, or_false] at k5
    have hjl := HL.out (by omega)
    clear hE2 HQ HL k1 k2 k3 k4
    rcases k5 with rfl | rfl
    all_goals
      go_wp2_with fail
      refine (s8 _ B pb v _ _ _ r (HN.out hjl) HR.out).mono ?_
      rintro e w3 ⟨rfl, hb3, hp3⟩
      go_wp2_with fail
      go_ret
      exact ⟨rfl, HBN.out.trans hb3, hp3⟩
  rw [if_neg k5, Option.some.injEq] at hE2
  have HRR : Hid _ := hE2
  simp only [List.mem_cons, List.not_mem_nil, or_false, not_or] at k1 k4 k5
  obtain ⟨a1, a2, a3, a4, a5⟩ := k1
  obtain ⟨a7, a8⟩ := k4
  obtain ⟨a9, a10⟩ := k5
  have b1 : (q == 1) = false := by simpa using a1
  have b2 : (q == 2) = false := by simpa using a2
  have b3 : (q == 3) = false := by simpa using a3
  have b4 : (q == 4) = false := by simpa using a4
  have b5 : (q == 5) = false := by simpa using a5
  have b6 : (q == 6) = false := by simpa using k3
  have b7 : (q == 7) = false := by simpa using a7
  have b8 : (q == 8) = false := by simpa using a8
  have b9 : (q == 9) = false := by simpa using a9
  have b10 : (q == 10) = false := by simpa using a10
  have b12 : (q == 12) = false := by simpa using k2
  clear hE2 HQ HL HN HBN k2 k3 a1 a2 a3 a4 a5 a7 a8 a9 a10 c1 f1
  go_wp2_with fail
  go_ret
  rw [← HRR.out]
  exact ⟨rfl, below_drewN HB1.out n, HP1.out.drewN n⟩

theorem parser_all (f : Nat) : ∀ g, g ≤ f → Cal 93 0 g ∧ Cal 122 1 g ∧ Cal 155 2 g ∧ Cal 188 3 g ∧ Cal 211 4 g ∧ Cal 212 5 g ∧ CalB 93 6 g ∧ CalB 211 7 g ∧ CalB 212 8 g := by
  induction f with
  | zero =>
    intro g hg
    obtain rfl : g = 0 := by omega
    have c : ∀ fn tag, Cal fn tag 0 := fun fn tag w B pb v ts i d r _ h => by simp [prs] at h
    have b : ∀ fn tag, CalB fn tag 0 := fun fn tag w B pb v ts i d r _ h => by simp [prs] at h
    exact ⟨c _ _, c _ _, c _ _, c _ _, c _ _, c _ _, b _ _, b _ _, b _ _⟩
  | succ f ih =>
    intro g hg
    by_cases hl : g ≤ f
    · exact ih g hl
    · obtain rfl : g = f + 1 := by omega
      obtain ⟨h0, h1, h2, h3, h4, h5, h6, h7, h8⟩ := ih f (Nat.le_refl _)
      exact ⟨formula_step f h1, sum_step f fun g hg => (ih g hg).2.2.1, product_step f fun g hg => (ih g hg).2.2.2.1, atom_step f h6 h7 h8, choice_step f h0, corners_step f,
        bracketed14_step f h0, bracketed68_step f h4, bracketed69_step f h5⟩
theorem formula_any (f : Nat) : Cal 93 0 f := (parser_all f f (Nat.le_refl _)).1
end Go.Proofs.YtiocnfambeochaaGreatDoor
