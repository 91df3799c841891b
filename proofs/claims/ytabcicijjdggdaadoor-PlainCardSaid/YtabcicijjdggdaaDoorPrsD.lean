/- The parser's functions 'bracketed', 'atom'. -/
import Derived.Test.YtabcicijjdggdaaDoorPrsC
namespace Go.Proofs.YtabcicijjdggdaaDoor
open Go.RowKit


theorem wants_some {q : Int} {ts : List Tk} {i d : Nat} {k : List Tk → Nat → Nat → Option PR} {r : PR} (h : wants q ts i d k = some r) :
    (kindAt ts i ≠ q ∧ ⟨false, ts, i, d⟩ = r) ∨ (kindAt ts i = q ∧ k ts (i + 1) d = some r) := by
  unfold wants at h
  by_cases hq : kindAt ts i = q
  · rw [if_pos hq] at h; exact Or.inr ⟨hq, h⟩
  · rw [if_neg hq, Option.some.injEq] at h; exact Or.inl ⟨hq, h⟩

/-- Brackets close again. -/
theorem prs_d : ∀ (f tag : Nat) (ts : List Tk) (i d : Nat) (r : PR), prs f tag ts i d = some r → r.ok = true → r.d = d
  | 0, _, _, _, _, _, h, _ => by simp [prs] at h
  | f + 1, tag, ts, i, d, r, h, hok => by
    have ih := prs_d f
    unfold prs at h
    by_cases t0 : tag = 0
    · rw [if_pos t0] at h
      obtain ⟨r1, e1, ⟨h1, rfl⟩ | ⟨h1, h2⟩⟩ := and_cases h
      · rw [h1] at hok; cases hok
      have d1 := ih _ _ _ _ _ e1 h1
      split at h2
      · rw [ih _ _ _ _ _ h2 hok, d1]
      · cases h2; exact d1
    rw [if_neg t0] at h
    by_cases t1 : tag = 1
    · rw [if_pos t1] at h
      obtain ⟨r1, e1, ⟨h1, rfl⟩ | ⟨h1, h2⟩⟩ := and_cases h
      · rw [h1] at hok; cases hok
      have d1 := ih _ _ _ _ _ e1 h1
      split at h2
      · rw [ih _ _ _ _ _ h2 hok, d1]
      · cases h2; exact d1
    rw [if_neg t1] at h
    by_cases t2 : tag = 2
    · rw [if_pos t2] at h
      obtain ⟨r1, e1, ⟨h1, rfl⟩ | ⟨h1, h2⟩⟩ := and_cases h
      · rw [h1] at hok; cases hok
      have d1 := ih _ _ _ _ _ e1 h1
      split at h2
      · rw [ih _ _ _ _ _ h2 hok, d1]
      · cases h2; exact d1
    rw [if_neg t2] at h
    by_cases t3 : tag = 3
    · rw [if_pos t3] at h
      generalize (ngs 8 ts i).1 = us at *
      generalize (ngs 8 ts i).2 = j at *
      by_cases k1 : kindAt us j ∈ [1, 2, 3, 4, 5]
      · rw [if_pos k1] at h; cases h; rfl
      rw [if_neg k1] at h
      by_cases k2 : kindAt us j = 12
      · rw [if_pos k2] at h; exact ih _ _ _ _ _ h hok
      rw [if_neg k2] at h
      by_cases k3 : kindAt us j = 6
      · rw [if_pos k3] at h; exact ih _ _ _ _ _ h hok
      rw [if_neg k3] at h
      by_cases k4 : kindAt us j ∈ [7, 8]
      · rw [if_pos k4] at h; exact ih _ _ _ _ _ h hok
      rw [if_neg k4] at h
      by_cases k5 : kindAt us j ∈ [9, 10]
      · rw [if_pos k5] at h; exact ih _ _ _ _ _ h hok
      rw [if_neg k5] at h
      cases h; cases hok
    rw [if_neg t3] at h
    by_cases t4 : tag = 4
    · rw [if_pos t4] at h
      obtain ⟨r1, e1, ⟨h1, rfl⟩ | ⟨h1, h2⟩⟩ := and_cases h
      · rw [h1] at hok; cases hok
      have d1 := ih _ _ _ _ _ e1 h1
      rcases wants_some h2 with ⟨_, rfl⟩ | ⟨_, h3⟩
      · cases hok
      obtain ⟨r2, e2, ⟨h4, rfl⟩ | ⟨h4, h5⟩⟩ := and_cases h3
      · rw [h4] at hok; cases hok
      have d2 := ih _ _ _ _ _ e2 h4
      rcases wants_some h5 with ⟨_, rfl⟩ | ⟨_, h6⟩
      · cases hok
      rw [ih _ _ _ _ _ h6 hok, d2, d1]
    rw [if_neg t4] at h
    by_cases t5 : tag = 5
    · rw [if_pos t5] at h
      rcases wants_some h with ⟨_, rfl⟩ | ⟨_, h⟩
      · cases hok
      rcases wants_some h with ⟨_, rfl⟩ | ⟨_, h⟩
      · cases hok
      rcases wants_some h with ⟨_, rfl⟩ | ⟨_, h⟩
      · cases hok
      cases h; rfl
    rw [if_neg t5] at h
    by_cases t8 : d = 8
    · rw [if_pos t8] at h; cases h; cases hok
    rw [if_neg t8] at h
    rcases wants_some h with ⟨_, rfl⟩ | ⟨_, h⟩
    · cases hok
    obtain ⟨r1, e1, ⟨h1, rfl⟩ | ⟨h1, h2⟩⟩ := and_cases h
    · rw [h1] at hok; cases hok
    have d1 := ih _ _ _ _ _ e1 h1
    rcases wants_some h2 with ⟨_, rfl⟩ | ⟨_, h3⟩
    · cases hok
    cases h3
    show r1.d - 1 = d
    omega

def CalB (fi tag f : Nat) : Prop := ∀ (w : World) (B pb : Nat) (v : Value) (ts : List Tk) (i d : Nat) (r : PR), PW w B pb v ts i d → prs f tag ts i d = some r →
  Calls Tryd.prog 71 #[.pointer (some ⟨pb, 0, none⟩), .func (Fn.func fi) #[.pointer (some ⟨pb, 0, none⟩)] #[]] w fun e w' => e = .returned (.bool r.ok) ∧ Below B w w' ∧ PW w' B pb v r.ts r.i r.d

theorem prs6 (f : Nat) (ts : List Tk) (i d : Nat) : prs (f + 1) 6 ts i d = if d = 8 then some ⟨false, ts, i, d⟩
    else wants 12 ts i d fun ts i d => andThen (prs f 0 ts i (d + 1)) fun ts i d => wants 13 ts i d fun ts i d => some ⟨true, ts, i, d - 1⟩ := rfl

set_option maxHeartbeats 2000000 in
theorem bracketed14_step (f : Nat) (s0 : Cal 21 0 f) : CalB 21 6 (f + 1) := by
  intro w B pb v ts i d r hpw he
  rw [prs6] at he
  have HP : Hid _ := hpw
  have hd8 := hpw.deep
  have c2 := hpw.c2
  have f2 := hpw.free 2
  by_cases h8 : d = 8
  · rw [if_pos h8, Option.some.injEq] at he
    have HRR : Hid _ := he
    have h88 : ((d : Int) == 8) = true := by simpa using (by omega : (d : Int) = 8)
    clear he hpw h8
    go_enter Tryd.func71, Tryd.ntmps71
    go_wp2_with fail
    go_ret
    rw [← HRR.out]
    exact ⟨rfl, Below.refl _ _, HP.out⟩
  rw [if_neg h8] at he
  have h88 : ((d : Int) == 8) = false := by simpa using (by omega : (d : Int) ≠ 8)
  have hdl : d < 8 := by omega
  have HW : Hid _ := he
  clear he hpw h8
  go_enter Tryd.func71, Tryd.ntmps71
  go_wp2_with fail
  refine (take1 12 (by decide) _ B pb v _ _ _ HP).mono ?_
  rintro e w1 ⟨rfl, hb1, hp1⟩
  rcases wants_cases HW.out with ⟨hB, hI, hrr⟩ | ⟨hB, hI, hk1⟩
  · have HBB : Hid _ := hB
    rw [hI] at hp1
    have HRR : Hid _ := hrr
    clear HW hB hI hrr
    rw [HBB.out]
    go_wp2_with fail
    go_ret
    rw [← HRR.out]
    exact ⟨rfl, hb1, hp1⟩
  have HBB : Hid _ := hB
  rw [hI] at hp1
  have HB1 : Hid _ := hb1
  have HP1 : Hid _ := hp1
  have HK1 : Hid _ := hk1
  clear HW hB hI hb1 hp1 hk1 c2 f2
  have c2 := HP1.out.c2
  have f2 := HP1.out.free 2
  rw [HBB.out]
  obtain ⟨r1, hr1, hc1⟩ := and_cases HK1.out
  have HR1 : Hid _ := hr1
  have HC1 : Hid _ := hc1
  clear HK1 hr1 hc1
  have HP2 : Hid (PW (w1.setCell ⟨pb, 2, none⟩ (.int .i64 ((d : Int) + 1))) B pb v ts (i + 1) (d + 1)) := HP1.out.depth (d + 1) (by omega)
  have HB2 : Hid (Below B w (w1.setCell ⟨pb, 2, none⟩ (.int .i64 ((d : Int) + 1)))) := HB1.out.setCell HP1.out.low _
  go_wp2_with fail
  refine (s0 _ B pb v _ _ _ r1 HP2.out HR1.out).mono ?_
  rintro e w2 ⟨rfl, hb2, hp2⟩
  have HB3 : Hid (Below B w w2) := HB2.out.trans hb2
  have HP3 : Hid _ := hp2
  clear hb2 hp2 HB1 HB2 HP2 c2 f2
  rcases HC1.out with ⟨hok, hrr⟩ | ⟨hok, hk3⟩
  · have HO : Hid _ := hok
    have HRR : Hid _ := hrr
    clear HC1 hok hrr
    rw [HO.out]
    go_wp2_with fail
    go_ret
    rw [← HRR.out, HO.out]
    exact ⟨rfl, HB3.out, HP3.out⟩
  have HDP : Hid (r1.d = d + 1) := prs_d _ _ _ _ _ _ HR1.out hok
  have HO : Hid _ := hok
  have HK3 : Hid _ := hk3
  clear HC1 hok hk3
  rw [HO.out]
  go_wp2_with fail
  refine (take1 13 (by decide) _ B pb v _ _ _ HP3).mono ?_
  rintro e w3 ⟨rfl, hb4, hp4⟩
  rcases wants_cases HK3.out with ⟨hB, hI, hrr⟩ | ⟨hB, hI, hk4⟩
  · have HBB4 : Hid _ := hB
    rw [hI] at hp4
    have HRR : Hid _ := hrr
    clear HK3 hB hI hrr
    rw [HBB4.out]
    go_wp2_with fail
    go_ret
    rw [← HRR.out]
    exact ⟨rfl, HB3.out.trans hb4, hp4⟩
  have HBB4 : Hid _ := hB
  rw [hI] at hp4
  rw [Option.some.injEq] at hk4
  have HRR : Hid _ := hk4
  have HB4 : Hid (Below B w w3) := HB3.out.trans hb4
  have HP4 : Hid _ := hp4
  clear HK3 hB hI hk4 hb4 hp4 HB3
  have c2 := HP4.out.c2
  have f2 := HP4.out.free 2
  have hd1 := HP4.out.deep
  obtain ⟨dd, hdd⟩ : ∃ dd, r1.d = dd + 1 := ⟨r1.d - 1, by have := HDP.out; omega⟩
  rw [hdd] at c2
  rw [HBB4.out]
  go_wp2_with fail
  go_ret
  rw [← HRR.out]
  refine ⟨rfl, HB4.out.setCell HP4.out.low _, ?_⟩
  rw [hdd]
  exact HP4.out.depth dd (by omega)

theorem prs7 (f : Nat) (ts : List Tk) (i d : Nat) : prs (f + 1) 7 ts i d = if d = 8 then some ⟨false, ts, i, d⟩
    else wants 12 ts i d fun ts i d => andThen (prs f 4 ts i (d + 1)) fun ts i d => wants 13 ts i d fun ts i d => some ⟨true, ts, i, d - 1⟩ := rfl

set_option maxHeartbeats 2000000 in
theorem bracketed68_step (f : Nat) (s0 : Cal 72 4 f) : CalB 72 7 (f + 1) := by
  intro w B pb v ts i d r hpw he
  rw [prs7] at he
  have HP : Hid _ := hpw
  have hd8 := hpw.deep
  have c2 := hpw.c2
  have f2 := hpw.free 2
  by_cases h8 : d = 8
  · rw [if_pos h8, Option.some.injEq] at he
    have HRR : Hid _ := he
    have h88 : ((d : Int) == 8) = true := by simpa using (by omega : (d : Int) = 8)
    clear he hpw h8
    go_enter Tryd.func71, Tryd.ntmps71
    go_wp2_with fail
    go_ret
    rw [← HRR.out]
    exact ⟨rfl, Below.refl _ _, HP.out⟩
  rw [if_neg h8] at he
  have h88 : ((d : Int) == 8) = false := by simpa using (by omega : (d : Int) ≠ 8)
  have hdl : d < 8 := by omega
  have HW : Hid _ := he
  clear he hpw h8
  go_enter Tryd.func71, Tryd.ntmps71
  go_wp2_with fail
  refine (take1 12 (by decide) _ B pb v _ _ _ HP).mono ?_
  rintro e w1 ⟨rfl, hb1, hp1⟩
  rcases wants_cases HW.out with ⟨hB, hI, hrr⟩ | ⟨hB, hI, hk1⟩
  · have HBB : Hid _ := hB
    rw [hI] at hp1
    have HRR : Hid _ := hrr
    clear HW hB hI hrr
    rw [HBB.out]
    go_wp2_with fail
    go_ret
    rw [← HRR.out]
    exact ⟨rfl, hb1, hp1⟩
  have HBB : Hid _ := hB
  rw [hI] at hp1
  have HB1 : Hid _ := hb1
  have HP1 : Hid _ := hp1
  have HK1 : Hid _ := hk1
  clear HW hB hI hb1 hp1 hk1 c2 f2
  have c2 := HP1.out.c2
  have f2 := HP1.out.free 2
  rw [HBB.out]
  obtain ⟨r1, hr1, hc1⟩ := and_cases HK1.out
  have HR1 : Hid _ := hr1
  have HC1 : Hid _ := hc1
  clear HK1 hr1 hc1
  have HP2 : Hid (PW (w1.setCell ⟨pb, 2, none⟩ (.int .i64 ((d : Int) + 1))) B pb v ts (i + 1) (d + 1)) := HP1.out.depth (d + 1) (by omega)
  have HB2 : Hid (Below B w (w1.setCell ⟨pb, 2, none⟩ (.int .i64 ((d : Int) + 1)))) := HB1.out.setCell HP1.out.low _
  go_wp2_with fail
  refine (s0 _ B pb v _ _ _ r1 HP2.out HR1.out).mono ?_
  rintro e w2 ⟨rfl, hb2, hp2⟩
  have HB3 : Hid (Below B w w2) := HB2.out.trans hb2
  have HP3 : Hid _ := hp2
  clear hb2 hp2 HB1 HB2 HP2 c2 f2
  rcases HC1.out with ⟨hok, hrr⟩ | ⟨hok, hk3⟩
  · have HO : Hid _ := hok
    have HRR : Hid _ := hrr
    clear HC1 hok hrr
    rw [HO.out]
    go_wp2_with fail
    go_ret
    rw [← HRR.out, HO.out]
    exact ⟨rfl, HB3.out, HP3.out⟩
  have HDP : Hid (r1.d = d + 1) := prs_d _ _ _ _ _ _ HR1.out hok
  have HO : Hid _ := hok
  have HK3 : Hid _ := hk3
  clear HC1 hok hk3
  rw [HO.out]
  go_wp2_with fail
  refine (take1 13 (by decide) _ B pb v _ _ _ HP3).mono ?_
  rintro e w3 ⟨rfl, hb4, hp4⟩
  rcases wants_cases HK3.out with ⟨hB, hI, hrr⟩ | ⟨hB, hI, hk4⟩
  · have HBB4 : Hid _ := hB
    rw [hI] at hp4
    have HRR : Hid _ := hrr
    clear HK3 hB hI hrr
    rw [HBB4.out]
    go_wp2_with fail
    go_ret
    rw [← HRR.out]
    exact ⟨rfl, HB3.out.trans hb4, hp4⟩
  have HBB4 : Hid _ := hB
  rw [hI] at hp4
  rw [Option.some.injEq] at hk4
  have HRR : Hid _ := hk4
  have HB4 : Hid (Below B w w3) := HB3.out.trans hb4
  have HP4 : Hid _ := hp4
  clear HK3 hB hI hk4 hb4 hp4 HB3
  have c2 := HP4.out.c2
  have f2 := HP4.out.free 2
  have hd1 := HP4.out.deep
  obtain ⟨dd, hdd⟩ : ∃ dd, r1.d = dd + 1 := ⟨r1.d - 1, by have := HDP.out; omega⟩
  rw [hdd] at c2
  rw [HBB4.out]
  go_wp2_with fail
  go_ret
  rw [← HRR.out]
  refine ⟨rfl, HB4.out.setCell HP4.out.low _, ?_⟩
  rw [hdd]
  exact HP4.out.depth dd (by omega)

theorem prs8 (f : Nat) (ts : List Tk) (i d : Nat) : prs (f + 1) 8 ts i d = if d = 8 then some ⟨false, ts, i, d⟩
    else wants 12 ts i d fun ts i d => andThen (prs f 5 ts i (d + 1)) fun ts i d => wants 13 ts i d fun ts i d => some ⟨true, ts, i, d - 1⟩ := rfl

set_option maxHeartbeats 2000000 in
theorem bracketed69_step (f : Nat) (s0 : Cal 73 5 f) : CalB 73 8 (f + 1) := by
  intro w B pb v ts i d r hpw he
  rw [prs8] at he
  have HP : Hid _ := hpw
  have hd8 := hpw.deep
  have c2 := hpw.c2
  have f2 := hpw.free 2
  by_cases h8 : d = 8
  · rw [if_pos h8, Option.some.injEq] at he
    have HRR : Hid _ := he
    have h88 : ((d : Int) == 8) = true := by simpa using (by omega : (d : Int) = 8)
    clear he hpw h8
    go_enter Tryd.func71, Tryd.ntmps71
    go_wp2_with fail
    go_ret
    rw [← HRR.out]
    exact ⟨rfl, Below.refl _ _, HP.out⟩
  rw [if_neg h8] at he
  have h88 : ((d : Int) == 8) = false := by simpa using (by omega : (d : Int) ≠ 8)
  have hdl : d < 8 := by omega
  have HW : Hid _ := he
  clear he hpw h8
  go_enter Tryd.func71, Tryd.ntmps71
  go_wp2_with fail
  refine (take1 12 (by decide) _ B pb v _ _ _ HP).mono ?_
  rintro e w1 ⟨rfl, hb1, hp1⟩
  rcases wants_cases HW.out with ⟨hB, hI, hrr⟩ | ⟨hB, hI, hk1⟩
  · have HBB : Hid _ := hB
    rw [hI] at hp1
    have HRR : Hid _ := hrr
    clear HW hB hI hrr
    rw [HBB.out]
    go_wp2_with fail
    go_ret
    rw [← HRR.out]
    exact ⟨rfl, hb1, hp1⟩
  have HBB : Hid _ := hB
  rw [hI] at hp1
  have HB1 : Hid _ := hb1
  have HP1 : Hid _ := hp1
  have HK1 : Hid _ := hk1
  clear HW hB hI hb1 hp1 hk1 c2 f2
  have c2 := HP1.out.c2
  have f2 := HP1.out.free 2
  rw [HBB.out]
  obtain ⟨r1, hr1, hc1⟩ := and_cases HK1.out
  have HR1 : Hid _ := hr1
  have HC1 : Hid _ := hc1
  clear HK1 hr1 hc1
  have HP2 : Hid (PW (w1.setCell ⟨pb, 2, none⟩ (.int .i64 ((d : Int) + 1))) B pb v ts (i + 1) (d + 1)) := HP1.out.depth (d + 1) (by omega)
  have HB2 : Hid (Below B w (w1.setCell ⟨pb, 2, none⟩ (.int .i64 ((d : Int) + 1)))) := HB1.out.setCell HP1.out.low _
  go_wp2_with fail
  refine (s0 _ B pb v _ _ _ r1 HP2.out HR1.out).mono ?_
  rintro e w2 ⟨rfl, hb2, hp2⟩
  have HB3 : Hid (Below B w w2) := HB2.out.trans hb2
  have HP3 : Hid _ := hp2
  clear hb2 hp2 HB1 HB2 HP2 c2 f2
  rcases HC1.out with ⟨hok, hrr⟩ | ⟨hok, hk3⟩
  · have HO : Hid _ := hok
    have HRR : Hid _ := hrr
    clear HC1 hok hrr
    rw [HO.out]
    go_wp2_with fail
    go_ret
    rw [← HRR.out, HO.out]
    exact ⟨rfl, HB3.out, HP3.out⟩
  have HDP : Hid (r1.d = d + 1) := prs_d _ _ _ _ _ _ HR1.out hok
  have HO : Hid _ := hok
  have HK3 : Hid _ := hk3
  clear HC1 hok hk3
  rw [HO.out]
  go_wp2_with fail
  refine (take1 13 (by decide) _ B pb v _ _ _ HP3).mono ?_
  rintro e w3 ⟨rfl, hb4, hp4⟩
  rcases wants_cases HK3.out with ⟨hB, hI, hrr⟩ | ⟨hB, hI, hk4⟩
  · have HBB4 : Hid _ := hB
    rw [hI] at hp4
    have HRR : Hid _ := hrr
    clear HK3 hB hI hrr
    rw [HBB4.out]
    go_wp2_with fail
    go_ret
    rw [← HRR.out]
    exact ⟨rfl, HB3.out.trans hb4, hp4⟩
  have HBB4 : Hid _ := hB
  rw [hI] at hp4
  rw [Option.some.injEq] at hk4
  have HRR : Hid _ := hk4
  have HB4 : Hid (Below B w w3) := HB3.out.trans hb4
  have HP4 : Hid _ := hp4
  clear HK3 hB hI hk4 hb4 hp4 HB3
  have c2 := HP4.out.c2
  have f2 := HP4.out.free 2
  have hd1 := HP4.out.deep
  obtain ⟨dd, hdd⟩ : ∃ dd, r1.d = dd + 1 := ⟨r1.d - 1, by have := HDP.out; omega⟩
  rw [hdd] at c2
  rw [HBB4.out]
  go_wp2_with fail
  go_ret
  rw [← HRR.out]
  refine ⟨rfl, HB4.out.setCell HP4.out.low _, ?_⟩
  rw [hdd]
  exact HP4.out.depth dd (by omega)

end Go.Proofs.YtabcicijjdggdaaDoor
