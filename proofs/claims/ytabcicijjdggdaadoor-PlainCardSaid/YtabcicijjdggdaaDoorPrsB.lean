/- The parser's functions 'sum' and 'product' (loops), 'corners', 'choice'. -/
import Derived.Test.YtabcicijjdggdaaDoorPrs
namespace Go.Proofs.YtabcicijjdggdaaDoor
open Go.RowKit

set_option maxHeartbeats 1000000 in
theorem sum_step (f : Nat) (s2 : ∀ g, g ≤ f → Cal 45 2 g) : Cal 30 1 (f + 1) := by
  intro w B pb v ts i d r hpw he
  go_enter Tryd.func30, Tryd.ntmps30
  go_wp2_with fail
  go_loopg [3] (f + 1) (fun g _ wr => ∃ (ts' : List Tk) (i' d' : Nat), g ≤ f + 1 ∧ Hid (PW wr B pb v ts' i' d') ∧ Hid (Below B w wr) ∧ Hid (prs g 1 ts' i' d' = some r))
  case atStart => exact ⟨ts, i, d, Nat.le_refl _, hpw, Below.refl _ _, he⟩
  case round =>
    obtain ⟨ts', i', d', hg, HP, HW, he'⟩ := hrel
    clear hpw he
    match gk, hg, he' with
    | 0, _, he' => exact absurd he'.out (by simp [prs])
    | g + 1, hg, he' =>
      have he := he'.out
      clear he'
      rw [prs1] at he
      match hr : prs g 2 ts' i' d' with
      | none => rw [hr] at he; simp [andThen] at he
      | some r1 =>
        rw [hr] at he
        have HR : Hid _ := hr
        have HE : Hid _ := he
        have s3 := s2 g (by omega)
        clear hr he s2
        cases hok : r1.ok
        · have hrr : Hid (r1 = r) := by
            have := HE.out
            simp only [andThen, hok, Bool.false_eq_true, if_false, Option.some.injEq] at this
            exact this
          have HO : Hid _ := hok
          clear hok HE
          go_wp2_with fail
          refine (s3 _ B pb v _ _ _ r1 HP.out HR.out).mono ?_
          rintro e w1 ⟨rfl, hb1, hp1⟩
          rw [HO.out]
          go_wp2_with fail
          go_ret
          rw [← hrr.out, HO.out]
          exact ⟨rfl, HW.out.trans hb1, hp1⟩
        · have HO : Hid _ := hok
          by_cases hin : kindAt r1.ts r1.i ∈ [16, 17, 20]
          · obtain ⟨hB, hI⟩ := tk_yes r1.i hin
            have h2 : Hid (prs g 1 r1.ts (r1.i + 1) r1.d = some r) := by
              have := HE.out
              simp only [andThen, hok, if_true, if_pos hin] at this
              exact this
            have HB : Hid _ := hB
            have HI : Hid _ := hI
            clear hok HE hin hB hI
            go_wp2_with fail
            refine (s3 _ B pb v _ _ _ r1 HP.out HR.out).mono ?_
            rintro e w1 ⟨rfl, hb1, hp1⟩
            rw [HO.out]
            have HP1 : Hid _ := hp1
            have HB1 : Hid _ := hb1
            clear hp1 hb1
            go_wp2_with fail
            refine (take3 16 17 20 (by decide) (by decide) (by decide) _ B pb v _ _ _ HP1).mono ?_
            rintro e w2 ⟨rfl, hb2, hp2⟩
            rw [HB.out]
            rw [HI.out] at hp2
            have HP2 : Hid _ := hp2
            have HB2 : Hid _ := hb2
            clear hp2 hb2
            go_wp2_with fail
            go_roundg g
            case measure => omega
            case rel => exact ⟨r1.ts, r1.i + 1, r1.d, by omega, HP2, (HW.out.trans HB1.out).trans HB2.out, h2⟩
          · obtain ⟨hB, hI⟩ := tk_no r1.i hin
            have hrr : Hid (⟨true, r1.ts, r1.i, r1.d⟩ = r) := by
              have := HE.out
              simp only [andThen, hok, if_true, if_neg hin, Option.some.injEq] at this
              exact this
            have HB : Hid _ := hB
            have HI : Hid _ := hI
            clear hok HE hin hB hI
            go_wp2_with fail
            refine (s3 _ B pb v _ _ _ r1 HP.out HR.out).mono ?_
            rintro e w1 ⟨rfl, hb1, hp1⟩
            rw [HO.out]
            have HP1 : Hid _ := hp1
            have HB1 : Hid _ := hb1
            clear hp1 hb1
            go_wp2_with fail
            refine (take3 16 17 20 (by decide) (by decide) (by decide) _ B pb v _ _ _ HP1).mono ?_
            rintro e w2 ⟨rfl, hb2, hp2⟩
            rw [HB.out]
            rw [HI.out] at hp2
            go_wp2_with fail
            go_ret
            rw [← hrr.out]
            exact ⟨rfl, (HW.out.trans HB1.out).trans hb2, hp2⟩
set_option maxHeartbeats 1000000 in
theorem product_step (f : Nat) (s2 : ∀ g, g ≤ f → Cal 56 3 g) : Cal 45 2 (f + 1) := by
  intro w B pb v ts i d r hpw he
  go_enter Tryd.func45, Tryd.ntmps45
  go_wp2_with fail
  go_loopg [3] (f + 1) (fun g _ wr => ∃ (ts' : List Tk) (i' d' : Nat), g ≤ f + 1 ∧ Hid (PW wr B pb v ts' i' d') ∧ Hid (Below B w wr) ∧ Hid (prs g 2 ts' i' d' = some r))
  case atStart => exact ⟨ts, i, d, Nat.le_refl _, hpw, Below.refl _ _, he⟩
  case round =>
    obtain ⟨ts', i', d', hg, HP, HW, he'⟩ := hrel
    clear hpw he
    match gk, hg, he' with
    | 0, _, he' => exact absurd he'.out (by simp [prs])
    | g + 1, hg, he' =>
      have he := he'.out
      clear he'
      rw [prs2] at he
      match hr : prs g 3 ts' i' d' with
      | none => rw [hr] at he; simp [andThen] at he
      | some r1 =>
        rw [hr] at he
        have HR : Hid _ := hr
        have HE : Hid _ := he
        have s3 := s2 g (by omega)
        clear hr he s2
        cases hok : r1.ok
        · have hrr : Hid (r1 = r) := by
            have := HE.out
            simp only [andThen, hok, Bool.false_eq_true, if_false, Option.some.injEq] at this
            exact this
          have HO : Hid _ := hok
          clear hok HE
          go_wp2_with fail
          refine (s3 _ B pb v _ _ _ r1 HP.out HR.out).mono ?_
          rintro e w1 ⟨rfl, hb1, hp1⟩
          rw [HO.out]
          go_wp2_with fail
          go_ret
          rw [← hrr.out, HO.out]
          exact ⟨rfl, HW.out.trans hb1, hp1⟩
        · have HO : Hid _ := hok
          by_cases hin : kindAt r1.ts r1.i ∈ [18, 19]
          · obtain ⟨hB, hI⟩ := tk_yes r1.i hin
            have h2 : Hid (prs g 2 r1.ts (r1.i + 1) r1.d = some r) := by
              have := HE.out
              simp only [andThen, hok, if_true, if_pos hin] at this
              exact this
            have HB : Hid _ := hB
            have HI : Hid _ := hI
            clear hok HE hin hB hI
            go_wp2_with fail
            refine (s3 _ B pb v _ _ _ r1 HP.out HR.out).mono ?_
            rintro e w1 ⟨rfl, hb1, hp1⟩
            rw [HO.out]
            have HP1 : Hid _ := hp1
            have HB1 : Hid _ := hb1
            clear hp1 hb1
            go_wp2_with fail
            refine (take2 18 19 (by decide) (by decide) _ B pb v _ _ _ HP1).mono ?_
            rintro e w2 ⟨rfl, hb2, hp2⟩
            rw [HB.out]
            rw [HI.out] at hp2
            have HP2 : Hid _ := hp2
            have HB2 : Hid _ := hb2
            clear hp2 hb2
            go_wp2_with fail
            go_roundg g
            case measure => omega
            case rel => exact ⟨r1.ts, r1.i + 1, r1.d, by omega, HP2, (HW.out.trans HB1.out).trans HB2.out, h2⟩
          · obtain ⟨hB, hI⟩ := tk_no r1.i hin
            have hrr : Hid (⟨true, r1.ts, r1.i, r1.d⟩ = r) := by
              have := HE.out
              simp only [andThen, hok, if_true, if_neg hin, Option.some.injEq] at this
              exact this
            have HB : Hid _ := hB
            have HI : Hid _ := hI
            clear hok HE hin hB hI
            go_wp2_with fail
            refine (s3 _ B pb v _ _ _ r1 HP.out HR.out).mono ?_
            rintro e w1 ⟨rfl, hb1, hp1⟩
            rw [HO.out]
            have HP1 : Hid _ := hp1
            have HB1 : Hid _ := hb1
            clear hp1 hb1
            go_wp2_with fail
            refine (take2 18 19 (by decide) (by decide) _ B pb v _ _ _ HP1).mono ?_
            rintro e w2 ⟨rfl, hb2, hp2⟩
            rw [HB.out]
            rw [HI.out] at hp2
            go_wp2_with fail
            go_ret
            rw [← hrr.out]
            exact ⟨rfl, (HW.out.trans HB1.out).trans hb2, hp2⟩

theorem prs5 (f : Nat) (ts : List Tk) (i d : Nat) : prs (f + 1) 5 ts i d = wants 5 ts i d fun ts i d => wants 15 ts i d fun ts i d => wants 5 ts i d fun ts i d => some ⟨true, ts, i, d⟩ := rfl
theorem one_yes {q k : Int} (i : Nat) (h : k = q) : tkB [q] k = true ∧ tkI [q] k i = i + 1 := tk_yes i (by simpa using h)
theorem one_no {q k : Int} (i : Nat) (h : ¬ k = q) : tkB [q] k = false ∧ tkI [q] k i = i := tk_no i (by simpa using h)

set_option maxHeartbeats 1000000 in
theorem corners_step (f : Nat) : Cal 73 5 (f + 1) := by
  intro w B pb v ts i d r hpw he
  rw [prs5] at he
  have HP : Hid _ := hpw
  unfold wants at he
  have HE : Hid _ := he
  clear hpw he
  by_cases h1 : kindAt ts i = 5
  · obtain ⟨hB1, hI1⟩ := one_yes i h1
    have HBa : Hid _ := hB1
    have HIa : Hid _ := hI1
    by_cases h2 : kindAt ts (i + 1) = 15
    · obtain ⟨hB2, hI2⟩ := one_yes (i + 1) h2
      have HBb : Hid _ := hB2
      have HIb : Hid _ := hI2
      by_cases h3 : kindAt ts (i + 1 + 1) = 5
      · obtain ⟨hB3, hI3⟩ := one_yes (i + 1 + 1) h3
        have HBc : Hid _ := hB3
        have HIc : Hid _ := hI3
        have hrr : Hid (⟨true, ts, i + 1 + 1 + 1, d⟩ = r) := by
          have := HE.out
          simp only [if_pos h1, if_pos h2, if_pos h3, Option.some.injEq] at this
          exact this
        clear HE h1 h2 h3 hB1 hI1 hB2 hI2 hB3 hI3
        go_enter Tryd.func73, Tryd.ntmps73
        go_wp2_with fail
        refine (take1 5 (by decide) _ B pb v _ _ _ HP).mono ?_
        rintro e w1 ⟨rfl, hb1, hp1⟩
        rw [HBa.out]
        rw [HIa.out] at hp1
        have HP1 : Hid _ := hp1
        clear hp1
        go_wp2_with fail
        refine (take1 15 (by decide) _ B pb v _ _ _ HP1).mono ?_
        rintro e w2 ⟨rfl, hb2, hp2⟩
        rw [HBb.out]
        rw [HIb.out] at hp2
        have HP2 : Hid _ := hp2
        clear hp2
        go_wp2_with fail
        refine (take1 5 (by decide) _ B pb v _ _ _ HP2).mono ?_
        rintro e w3 ⟨rfl, hb3, hp3⟩
        rw [HBc.out]
        rw [HIc.out] at hp3
        go_wp2_with fail
        go_ret
        rw [← hrr.out]
        exact ⟨rfl, (hb1.trans hb2).trans hb3, hp3⟩
      · obtain ⟨hB3, hI3⟩ := one_no (i + 1 + 1) h3
        have HBc : Hid _ := hB3
        have HIc : Hid _ := hI3
        have hrr : Hid (⟨false, ts, i + 1 + 1, d⟩ = r) := by
          have := HE.out
          simp only [if_pos h1, if_pos h2, if_neg h3, Option.some.injEq] at this
          exact this
        clear HE h1 h2 h3 hB1 hI1 hB2 hI2 hB3 hI3
        go_enter Tryd.func73, Tryd.ntmps73
        go_wp2_with fail
        refine (take1 5 (by decide) _ B pb v _ _ _ HP).mono ?_
        rintro e w1 ⟨rfl, hb1, hp1⟩
        rw [HBa.out]
        rw [HIa.out] at hp1
        have HP1 : Hid _ := hp1
        clear hp1
        go_wp2_with fail
        refine (take1 15 (by decide) _ B pb v _ _ _ HP1).mono ?_
        rintro e w2 ⟨rfl, hb2, hp2⟩
        rw [HBb.out]
        rw [HIb.out] at hp2
        have HP2 : Hid _ := hp2
        clear hp2
        go_wp2_with fail
        refine (take1 5 (by decide) _ B pb v _ _ _ HP2).mono ?_
        rintro e w3 ⟨rfl, hb3, hp3⟩
        rw [HBc.out]
        rw [HIc.out] at hp3
        go_wp2_with fail
        go_ret
        rw [← hrr.out]
        exact ⟨rfl, (hb1.trans hb2).trans hb3, hp3⟩
    · obtain ⟨hB2, hI2⟩ := one_no (i + 1) h2
      have HBb : Hid _ := hB2
      have HIb : Hid _ := hI2
      have hrr : Hid (⟨false, ts, i + 1, d⟩ = r) := by
        have := HE.out
        simp only [if_pos h1, if_neg h2, Option.some.injEq] at this
        exact this
      clear HE h1 h2 hB1 hI1 hB2 hI2
      go_enter Tryd.func73, Tryd.ntmps73
      go_wp2_with fail
      refine (take1 5 (by decide) _ B pb v _ _ _ HP).mono ?_
      rintro e w1 ⟨rfl, hb1, hp1⟩
      rw [HBa.out]
      rw [HIa.out] at hp1
      have HP1 : Hid _ := hp1
      clear hp1
      go_wp2_with fail
      refine (take1 15 (by decide) _ B pb v _ _ _ HP1).mono ?_
      rintro e w2 ⟨rfl, hb2, hp2⟩
      rw [HBb.out]
      rw [HIb.out] at hp2
      go_wp2_with fail
      go_ret
      rw [← hrr.out]
      exact ⟨rfl, hb1.trans hb2, hp2⟩
  · obtain ⟨hB1, hI1⟩ := one_no i h1
    have HBa : Hid _ := hB1
    have HIa : Hid _ := hI1
    have hrr : Hid (⟨false, ts, i, d⟩ = r) := by
      have := HE.out
      simp only [if_neg h1, Option.some.injEq] at this
      exact this
    clear HE h1 hB1 hI1
    go_enter Tryd.func73, Tryd.ntmps73
    go_wp2_with fail
    refine (take1 5 (by decide) _ B pb v _ _ _ HP).mono ?_
    rintro e w1 ⟨rfl, hb1, hp1⟩
    rw [HBa.out]
    rw [HIa.out] at hp1
    go_wp2_with fail
    go_ret
    rw [← hrr.out]
    exact ⟨rfl, hb1, hp1⟩
end Go.Proofs.YtabcicijjdggdaaDoor
