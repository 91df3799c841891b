/- The parser's function 'atom'; then all of them, at any number of steps. -/
import Derived.Test.YtabcicijjdggdaaDoorPrsD
namespace Go.Proofs.YtabcicijjdggdaaDoor
open Go.RowKit

theorem prs3 (f : Nat) (ts : List Tk) (i d : Nat) : prs (f + 1) 3 ts i d =
      if kindAt (ngs 8 ts i).1 (ngs 8 ts i).2 ∈ [1, 2, 3, 4, 5] then some ⟨true, (ngs 8 ts i).1, (ngs 8 ts i).2 + 1, d⟩
      else if kindAt (ngs 8 ts i).1 (ngs 8 ts i).2 = 12 then prs f 6 (ngs 8 ts i).1 (ngs 8 ts i).2 d
      else if kindAt (ngs 8 ts i).1 (ngs 8 ts i).2 = 6 then prs f 7 (ngs 8 ts i).1 ((ngs 8 ts i).2 + 1) d
      else if kindAt (ngs 8 ts i).1 (ngs 8 ts i).2 ∈ [7, 8] then prs f 6 (ngs 8 ts i).1 ((ngs 8 ts i).2 + 1) d
      else if kindAt (ngs 8 ts i).1 (ngs 8 ts i).2 ∈ [9, 10] then prs f 8 (ngs 8 ts i).1 ((ngs 8 ts i).2 + 1) d
      else some ⟨false, (ngs 8 ts i).1, (ngs 8 ts i).2, d⟩ := rfl


set_option maxHeartbeats 2000000 in
theorem atom_step (f : Nat) (s6 : CalB 21 6 f) (s7 : CalB 72 7 f) (s8 : CalB 73 8 f) : Cal 56 3 (f + 1) := by
  intro w B pb v ts i d r hpw he
  rw [prs3] at he
  have HP : Hid _ := hpw
  have HE : Hid _ := he
  clear hpw he
  go_enter Tryd.func56, Tryd.ntmps56
  go_wp2_with fail
  refine (negations_any _ B pb v ts i d HP).mono ?_
  rintro e w1 ⟨rfl, hb1, hp1⟩
  generalize (ngs 8 ts i).1 = us at *
  generalize (ngs 8 ts i).2 = j at *
  have HP1 : Hid _ := hp1
  have HB1 : Hid _ := hb1
  clear hp1 hb1
  go_wp2_with fail
  refine (kind_any _ B pb v _ _ _ HP1).mono ?_
  rintro e w2 ⟨rfl, n, rfl⟩
  have hle := HP1.out.le
  have hsm := HP1.out.small
  obtain ⟨q, hq⟩ : ∃ q, kindAt us j = q := ⟨_, rfl⟩
  have HQ : Hid _ := hq
  have hE2 := HE.out
  rw [hq] at hE2 ⊢
  clear hq HE
  have c1 := HP1.out.c1
  have f1 := HP1.out.free 1
  have HL : Hid (q ≠ 0 → j < us.length) := by unfold Hid; rw [← HQ.out]; exact kindAt_lt
  have HN : Hid (j < us.length → PW ((w1.drewN n).setCell ⟨pb, 1, none⟩ (.int .i64 ((j : Int) + 1))) B pb v us (j + 1) d) := fun h => (HP1.out.drewN n).next (j + 1) h
  have HBN : Hid (Below B w ((w1.drewN n).setCell ⟨pb, 1, none⟩ (.int .i64 ((j : Int) + 1)))) := (below_drewN HB1.out n).setCell HP1.out.low _
  by_cases k1 : q ∈ [1, 2, 3, 4, 5]
  · rw [if_pos k1, Option.some.injEq] at hE2
    have HRR : Hid _ := hE2
    have hjl := HL.out (by intro h; rw [h] at k1; simp at k1)
    clear hE2 HQ HL
    simp only [List.mem_cons, List.not_mem_nil, or_false] at k1
    rcases k1 with rfl | rfl | rfl | rfl | rfl
    all_goals
      go_wp2_with fail
      go_ret
      rw [← HRR.out]
      exact ⟨rfl, HBN.out, HN.out hjl⟩
  rw [if_neg k1] at hE2
  by_cases k2 : q = 12
  · rw [if_pos k2] at hE2
    have HR : Hid _ := hE2
    clear hE2 HQ HL HN HBN k1
    subst k2
    go_wp2_with fail
    refine (s6 _ B pb v _ _ _ r (HP1.out.drewN n) HR.out).mono ?_
    rintro e w3 ⟨rfl, hb3, hp3⟩
    go_wp2_with fail
    go_ret
    exact ⟨rfl, (below_drewN HB1.out n).trans hb3, hp3⟩
  rw [if_neg k2] at hE2
  by_cases k3 : q = 6
  · rw [if_pos k3] at hE2
    have HR : Hid _ := hE2
    have hjl := HL.out (by omega)
    clear hE2 HQ HL k1 k2
    subst k3
    go_wp2_with fail
    refine (s7 _ B pb v _ _ _ r (HN.out hjl) HR.out).mono ?_
    rintro e w3 ⟨rfl, hb3, hp3⟩
    go_wp2_with fail
    go_ret
    exact ⟨rfl, HBN.out.trans hb3, hp3⟩
  rw [if_neg k3] at hE2
  by_cases k4 : q ∈ [7, 8]
  · rw [if_pos k4] at hE2
    have HR : Hid _ := hE2
    simp only [List.mem_cons, List.not_mem_nil, or_false] at k4
    have hjl := HL.out (by omega)
    clear hE2 HQ HL k1 k2 k3
    rcases k4 with rfl | rfl
    all_goals
      go_wp2_with fail
      refine (s6 _ B pb v _ _ _ r (HN.out hjl) HR.out).mono ?_
      rintro e w3 ⟨rfl, hb3, hp3⟩
      go_wp2_with fail
      go_ret
      exact ⟨rfl, HBN.out.trans hb3, hp3⟩
  rw [if_neg k4] at hE2
  by_cases k5 : q ∈ [9, 10]
  · rw [if_pos k5] at hE2
    have HR : Hid _ := hE2
    simp only [List.mem_cons, List.not_mem_nil, or_false] at k5
    have hjl := HL.out (by omega)
    clear hE2 HQ HL k1 k2 k3 k4
    rcases k5 with rfl | rfl
    all_goals
      go_wp2_with fail
      refine (s8 _ B pb v _ _ _ r (HN.out hjl) HR.out).mono ?_
      rintro e w3 ⟨rfl, hb3, hp3⟩
      go_wp2_with fail
      go_ret
      exact ⟨rfl, HBN.out.trans hb3, hp3⟩
  rw [if_neg k5, Option.some.injEq] at hE2
  have HRR : Hid _ := hE2
  simp only [List.mem_cons, List.not_mem_nil, or_false, not_or] at k1 k4 k5
  obtain ⟨a1, a2, a3, a4, a5⟩ := k1
  obtain ⟨a7, a8⟩ := k4
  obtain ⟨a9, a10⟩ := k5
  have b1 : (q == 1) = false := by simpa using a1
  have b2 : (q == 2) = false := by simpa using a2
  have b3 : (q == 3) = false := by simpa using a3
  have b4 : (q == 4) = false := by simpa using a4
  have b5 : (q == 5) = false := by simpa using a5
  have b6 : (q == 6) = false := by simpa using k3
  have b7 : (q == 7) = false := by simpa using a7
  have b8 : (q == 8) = false := by simpa using a8
  have b9 : (q == 9) = false := by simpa using a9
  have b10 : (q == 10) = false := by simpa using a10
  have b12 : (q == 12) = false := by simpa using k2
  clear hE2 HQ HL HN HBN k2 k3 a1 a2 a3 a4 a5 a7 a8 a9 a10 c1 f1
  go_wp2_with fail
  go_ret
  rw [← HRR.out]
  exact ⟨rfl, below_drewN HB1.out n, HP1.out.drewN n⟩

/-- All of them. -/
theorem parser_all (f : Nat) : ∀ g, g ≤ f → Cal 21 0 g ∧ Cal 30 1 g ∧ Cal 45 2 g ∧ Cal 56 3 g ∧ Cal 72 4 g ∧ Cal 73 5 g ∧ CalB 21 6 g ∧ CalB 72 7 g ∧ CalB 73 8 g := by
  induction f with
  | zero =>
    intro g hg
    obtain rfl : g = 0 := by omega
    have c : ∀ fn tag, Cal fn tag 0 := fun fn tag w B pb v ts i d r _ h => by simp [prs] at h
    have b : ∀ fn tag, CalB fn tag 0 := fun fn tag w B pb v ts i d r _ h => by simp [prs] at h
    exact ⟨c _ _, c _ _, c _ _, c _ _, c _ _, c _ _, b _ _, b _ _, b _ _⟩
  | succ f ih =>
    intro g hg
    by_cases hl : g ≤ f
    · exact ih g hl
    · obtain rfl : g = f + 1 := by omega
      obtain ⟨h0, h1, h2, h3, h4, h5, h6, h7, h8⟩ := ih f (Nat.le_refl _)
      exact ⟨formula_step f h1, sum_step f fun g hg => (ih g hg).2.2.1, product_step f fun g hg => (ih g hg).2.2.2.1, atom_step f h6 h7 h8, choice_step f h0, corners_step f,
        bracketed14_step f h0, bracketed68_step f h4, bracketed69_step f h5⟩
theorem formula_any (f : Nat) : Cal 21 0 f := (parser_all f f (Nat.le_refl _)).1
end Go.Proofs.YtabcicijjdggdaaDoor
