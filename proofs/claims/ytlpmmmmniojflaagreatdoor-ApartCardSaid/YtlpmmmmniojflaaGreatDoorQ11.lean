/- Texts put together. -/
import Derived.Test.YtlpmmmmniojflaaGreatDoorQ10
/- The parser's functions 'bracketed', 'atom'. -/
namespace Go.Proofs.YtlpmmmmniojflaaGreatDoor
open Go.RowKit
theorem wants_some {q : Int} {ts : List Tk} {i d : Nat} {k : List Tk → Nat → Nat → Option PR} {r : PR} (h : wants q ts i d k = some r) :
    (kindAt ts i ≠ q ∧ ⟨false, ts, i, d⟩ = r) ∨ (kindAt ts i = q ∧ k ts (i + 1) d = some r) := by
  unfold wants at h
  by_cases hq : kindAt ts i = q
  · rw [if_pos hq] at h; exact Or.inr ⟨hq, h⟩
  · rw [if_neg hq, Option.some.injEq] at h; exact Or.inl ⟨hq, h⟩
theorem prs_d : ∀ (f tag : Nat) (ts : List Tk) (i d : Nat) (r : PR), prs f tag ts i d = some r → r.ok = true → r.d = d
  | 0, _, _, _, _, _, h, _ => by simp [prs] at h
  | f + 1, tag, ts, i, d, r, h, hok => by
    have ih := prs_d f
    unfold prs at h
    by_cases t0 : tag = 0
    · rw [if_pos t0] at h
      obtain ⟨r1, e1, ⟨h1, rfl⟩ | ⟨h1, h2⟩⟩ := and_cases h
      · rw [h1] at hok; cases hok
      have d1 := ih _ _ _ _ _ e1 h1
      split at h2
      · rw [ih _ _ _ _ _ h2 hok, d1]
      · cases h2; exact d1
    rw [if_neg t0] at h
    by_cases t1 : tag = 1
    · rw [if_pos t1] at h
      obtain ⟨r1, e1, ⟨h1, rfl⟩ | ⟨h1, h2⟩⟩ := and_cases h
      · rw [h1] at hok; cases hok
      have d1 := ih _ _ _ _ _ e1 h1
      split at h2
      · rw [ih _ _ _ _ _ h2 hok, d1]
      · cases h2; exact d1
    rw [if_neg t1] at h
    by_cases t2 : tag = 2
    · rw [if_pos t2] at h
      obtain ⟨r1, e1, ⟨h1, rfl⟩ | ⟨h1, h2⟩⟩ := and_cases h
      · rw [h1] at hok; cases hok
      have d1 := ih _ _ _ _ _ e1 h1
      split at h2
      · rw [ih _ _ _ _ _ h2 hok, d1]
      · cases h2; exact d1
    rw [if_neg t2] at h
    by_cases t3 : tag = 3
    · rw [if_pos t3] at h
      generalize (ngs 8 ts i).1 = us at *
      generalize (ngs 8 ts i).2 = j at *
      by_cases k1 : kindAt us j ∈ [1, 2, 3, 4, 5]
      · rw [if_pos k1] at h; cases h; rfl
      rw [if_neg k1] at h
      by_cases k2 : kindAt us j = 12
      · rw [if_pos k2] at h; exact ih _ _ _ _ _ h hok
      rw [if_neg k2] at h
      by_cases k3 : kindAt us j = 6
      · rw [if_pos k3] at h; exact ih _ _ _ _ _ h hok
      rw [if_neg k3] at h
      by_cases k4 : kindAt us j ∈ [7, 8]
      · rw [if_pos k4] at h; exact ih _ _ _ _ _ h hok
      rw [if_neg k4] at h
      by_cases k5 : kindAt us j ∈ [9, 10]
      · rw [if_pos k5] at h; exact ih _ _ _ _ _ h hok
      rw [if_neg k5] at h
      cases h; cases hok
    rw [if_neg t3] at h
    by_cases t4 : tag = 4
    · rw [if_pos t4] at h
      obtain ⟨r1, e1, ⟨h1, rfl⟩ | ⟨h1, h2⟩⟩ := and_cases h
      · rw [h1] at hok; cases hok
      have d1 := ih _ _ _ _ _ e1 h1
      rcases wants_some h2 with ⟨_, rfl⟩ | ⟨_, h3⟩
      · cases hok
      obtain ⟨r2, e2, ⟨h4, rfl⟩ | ⟨h4, h5⟩⟩ := and_cases h3
      · rw [h4] at hok; cases hok
      have d2 := ih _ _ _ _ _ e2 h4
      rcases wants_some h5 with ⟨_, rfl⟩ | ⟨_, h6⟩
      · cases hok
      rw [ih _ _ _ _ _ h6 hok, d2, d1]
    rw [if_neg t4] at h
    by_cases t5 : tag = 5
    · rw [if_pos t5] at h
      rcases wants_some h with ⟨_, rfl⟩ | ⟨_, h⟩
      · cases hok
      rcases wants_some h with ⟨_, rfl⟩ | ⟨_, h⟩
      · cases hok
      rcases wants_some h with ⟨_, rfl⟩ | ⟨_, h⟩
      · cases hok
      cases h; rfl
    rw [if_neg t5] at h
    by_cases t8 : d = 8
    · rw [if_pos t8] at h; cases h; cases hok
    rw [if_neg t8] at h
    rcases wants_some h with ⟨_, rfl⟩ | ⟨_, h⟩
    · cases hok
    obtain ⟨r1, e1, ⟨h1, rfl⟩ | ⟨h1, h2⟩⟩ := and_cases h
    · rw [h1] at hok; cases hok
    have d1 := ih _ _ _ _ _ e1 h1
    rcases wants_some h2 with ⟨_, rfl⟩ | ⟨_, h3⟩
    · cases hok
    cases h3
    show r1.d - 1 = d
    omega
def CalB (fi tag f : Nat) : Prop := ∀ (w : World) (B pb : Nat) (v : Value) (ts : List Tk) (i d : Nat) (r : PR), PW w B pb v ts i d → prs f tag ts i d = some r →
  Calls Tryz.prog 210 #[.pointer (some ⟨pb, 0, none⟩), .func (Fn.func fi) #[.pointer (some ⟨pb, 0, none⟩)] #[]] w fun e w' => e = .returned (.bool r.ok) ∧ Below B w w' ∧ PW w' B pb v r.ts r.i r.d
theorem prs6 (f : Nat) (ts : List Tk) (i d : Nat) : prs (f + 1) 6 ts i d = if d = 8 then some ⟨false, ts, i, d⟩
    else wants 12 ts i d fun ts i d => andThen (prs f 0 ts i (d + 1)) fun ts i d => wants 13 ts i d fun ts i d => some ⟨true, ts, i, d - 1⟩ := rfl
set_option maxHeartbeats 2000000 in
theorem bracketed14_step (f : Nat) (s0 : Cal 93 0 f) : CalB 93 6 (f + 1) := by
  intro w B pb v ts i d r hpw he
  rw [prs6] at he
  have HP : Hid _ := hpw
  have hd8 := hpw.deep
  have c2 := hpw.c2
  have f2 := hpw.free 2
  by_cases h8 : d = 8
  · rw [if_pos h8, Option.some.injEq] at he
    have HRR : Hid _ := he
    have h88 : ((d : Int) == 8) = true := by simpa using (by omega : (d : Int) = 8)
    clear he hpw h8
    go_enter Tryz.func210, Tryz.ntmps210
    go_wp2_with fail
    go_ret
    rw [← HRR.out]
    exact ⟨rfl, Below.refl _ _, HP.out⟩
  rw [if_neg h8] at he
  have h88 : ((d : Int) == 8) = false := by simpa using (by omega : (d : Int) ≠ 8)
  have hdl : d < 8 := by omega
  have HW : Hid _ := he
  clear he hpw h8
  go_enter Tryz.func210, Tryz.ntmps210
  go_wp2_with fail
  refine (take1 12 (by decide) _ B pb v _ _ _ HP).mono ?_
  rintro e w1 ⟨rfl, hb1, hp1⟩
  rcases wants_cases HW.out with ⟨hB, hI, hrr⟩ | ⟨hB, hI, hk1⟩
  · have HBB : Hid _ := hB
    rw [hI] at hp1
    have HRR : Hid _ := hrr
    clear HW hB hI hrr
    rw [HBB.out]
    go_wp2_with fail
    go_ret
    rw [← HRR.out]
    exact ⟨rfl, hb1, hp1⟩
  have HBB : Hid _ := hB
  rw [hI] at hp1
  have HB1 : Hid _ := hb1
  have HP1 : Hid _ := hp1
  have HK1 : Hid _ := hk1
  clear HW hB hI hb1 hp1 hk1 c2 f2
  have c2 := HP1.out.c2
  have f2 := HP1.out.free 2
  rw [HBB.out]
  obtain ⟨r1, hr1, hc1⟩ := and_cases HK1.out
  have HR1 : Hid _ := hr1
  have HC1 : Hid _ := hc1
  clear HK1 hr1 hc1
  have HP2 : Hid (PW (w1.setCell ⟨pb, 2, none⟩ (.int .i64 ((d : Int) + 1))) B pb v ts (i + 1) (d + 1)) := HP1.out.depth (d + 1) (by omega)
  have HB2 : Hid (Below B w (w1.setCell ⟨pb, 2, none⟩ (.int .i64 ((d : Int) + 1)))) := HB1.out.setCell HP1.out.low _
  go_wp2_with fail
  refine (s0 _ B pb v _ _ _ r1 HP2.out HR1.out).mono ?_
  rintro e w2 ⟨rfl, hb2, hp2⟩
  have HB3 : Hid (Below B w w2) := HB2.out.trans hb2
  have HP3 : Hid _ := hp2
  clear hb2 hp2 HB1 HB2 HP2 c2 f2
  rcases HC1.out with ⟨hok, hrr⟩ | ⟨hok, hk3⟩
  · have HO : Hid _ := hok
    have HRR : Hid _ := hrr
    clear HC1 hok hrr
    rw [HO.out]
    go_wp2_with fail
    go_ret
    rw [← HRR.out, HO.out]
    exact ⟨rfl, HB3.out, HP3.out⟩
  have HDP : Hid (r1.d = d + 1) := prs_d _ _ _ _ _ _ HR1.out hok
  have HO : Hid _ := hok
  have HK3 : Hid _ := hk3
  clear HC1 hok hk3
  rw [HO.out]
  go_wp2_with fail
  refine (take1 13 (by decide) _ B pb v _ _ _ HP3).mono ?_
  rintro e w3 ⟨rfl, hb4, hp4⟩
  rcases wants_cases HK3.out with ⟨hB, hI, hrr⟩ | ⟨hB, hI, hk4⟩
  · have HBB4 : Hid _ := hB
    rw [hI] at hp4
    have HRR : Hid _ := hrr
    clear HK3 hB hI hrr
    rw [HBB4.out]
    go_wp2_with fail
    go_ret
    rw [← HRR.out]
    exact ⟨rfl, HB3.out.trans hb4, hp4⟩
  have HBB4 : Hid _ := hB
  rw [hI] at hp4
  rw [Option.some.injEq] at hk4
  have HRR : Hid _ := hk4
  have HB4 : Hid (Below B w w3) := HB3.out.trans hb4
  have HP4 : Hid _ := hp4
  clear HK3 hB hI hk4 hb4 hp4 HB3
  have c2 := HP4.out.c2
  have f2 := HP4.out.free 2
  have hd1 := HP4.out.deep
  obtain ⟨dd, hdd⟩ : ∃ dd, r1.d = dd + 1 := ⟨r1.d - 1, by have := HDP.out; omega⟩
  rw [hdd] at c2
  rw [HBB4.out]
  go_wp2_with fail
  go_ret
  rw [← HRR.out]
  refine ⟨rfl, HB4.out.setCell HP4.out.low _, ?_⟩
  rw [hdd]
  exact HP4.out.depth dd (by omega)
theorem prs7 (f : Nat) (ts : List Tk) (i d : Nat) : prs (f + 1) 7 ts i d = if d = 8 then some ⟨false, ts, i, d⟩
    else wants 12 ts i d fun ts i d => andThen (prs f 4 ts i (d + 1)) fun ts i d => wants 13 ts i d fun ts i d => some ⟨true, ts, i, d - 1⟩ := rfl
set_option maxHeartbeats 2000000 in
theorem bracketed68_step (f : Nat) (s0 : Cal 211 4 f) : CalB 211 7 (f + 1) := by
  intro w B pb v ts i d r hpw he
  rw [prs7] at he
  have HP : Hid _ := hpw
  have hd8 := hpw.deep
  have c2 := hpw.c2
  have f2 := hpw.free 2
  by_cases h8 : d = 8
  · rw [if_pos h8, Option.some.injEq] at he
    have HRR : Hid _ := he
    have h88 : ((d : Int) == 8) = true := by simpa using (by omega : (d : Int) = 8)
    clear he hpw h8
    go_enter Tryz.func210, Tryz.ntmps210
    go_wp2_with fail
    go_ret
    rw [← HRR.out]
    exact ⟨rfl, Below.refl _ _, HP.out⟩
  rw [if_neg h8] at he
  have h88 : ((d : Int) == 8) = false := by simpa using (by omega : (d : Int) ≠ 8)
  have hdl : d < 8 := by omega
  have HW : Hid _ := he
  clear he hpw h8
  go_enter Tryz.func210, Tryz.ntmps210
  go_wp2_with fail
  refine (take1 12 (by decide) _ B pb v _ _ _ HP).mono ?_
  rintro e w1 ⟨rfl, hb1, hp1⟩
  rcases wants_cases HW.out with ⟨hB, hI, hrr⟩ | ⟨hB, hI, hk1⟩
  · have HBB : Hid _ := hB
    rw [hI] at hp1
    have HRR : Hid _ := hrr
    clear HW hB hI hrr
    rw [HBB.out]
    go_wp2_with fail
    go_ret
    rw [← HRR.out]
    exact ⟨rfl, hb1, hp1⟩
  have HBB : Hid _ := hB
  rw [hI] at hp1
  have HB1 : Hid _ := hb1
  have HP1 : Hid _ := hp1
  have HK1 : Hid _ := hk1
  clear HW hB hI hb1 hp1 hk1 c2 f2
  have c2 := HP1.out.c2
  have f2 := HP1.out.free 2
  rw [HBB.out]
  obtain ⟨r1, hr1, hc1⟩ := and_cases HK1.out
  have HR1 : Hid _ := hr1
  have HC1 : Hid _ := hc1
  clear HK1 hr1 hc1
  have HP2 : Hid (PW (w1.setCell ⟨pb, 2, none⟩ (.int .i64 ((d : Int) + 1))) B pb v ts (i + 1) (d + 1)) := HP1.out.depth (d + 1) (by omega)
  have HB2 : Hid (Below B w (w1.setCell ⟨pb, 2, none⟩ (.int .i64 ((d : Int) + 1)))) := HB1.out.setCell HP1.out.low _
  go_wp2_with fail
  refine (s0 _ B pb v _ _ _ r1 HP2.out HR1.out).mono ?_
  rintro e w2 ⟨rfl, hb2, hp2⟩
  have HB3 : Hid (Below B w w2) := HB2.out.trans hb2
  have HP3 : Hid _ := hp2
  clear hb2 hp2 HB1 HB2 HP2 c2 f2
  rcases HC1.out with ⟨hok, hrr⟩ | ⟨hok, hk3⟩
  · have HO : Hid _ := hok
    have HRR : Hid _ := hrr
    clear HC1 hok hrr
    rw [HO.out]
    go_wp2_with fail
    go_ret
    rw [← HRR.out, HO.out]
    exact ⟨rfl, HB3.out, HP3.out⟩
  have HDP : Hid (r1.d = d + 1) := prs_d _ _ _ _ _ _ HR1.out hok
  have HO : Hid _ := hok
  have HK3 : Hid _ := hk3
  clear HC1 hok hk3
  rw [HO.out]
  go_wp2_with fail
  refine (take1 13 (by decide) _ B pb v _ _ _ HP3).mono ?_
  rintro e w3 ⟨rfl, hb4, hp4⟩
  rcases wants_cases HK3.out with ⟨hB, hI, hrr⟩ | ⟨hB, hI, hk4⟩
  · have HBB4 : Hid _ := hB
    rw [hI] at hp4
    have HRR : Hid _ := hrr
    clear HK3 hB hI hrr
    rw [HBB4.out]
    go_wp2_with fail
    go_ret
    rw [← HRR.out]
    exact ⟨rfl, HB3.out.trans hb4, hp4⟩
  have HBB4 : Hid _ := hB
  rw [hI] at hp4
  rw [Option.some.injEq] at hk4
  have HRR : Hid _ := hk4
  have HB4 : Hid (Below B w w3) := HB3.out.trans hb4
  have HP4 : Hid _ := hp4
  clear HK3 hB hI hk4 hb4 hp4 HB3
  have c2 := HP4.out.c2
  have f2 := HP4.out.free 2
  have hd1 := HP4.out.deep
  obtain ⟨dd, hdd⟩ : ∃ dd, r1.d = dd + 1 := ⟨r1.d - 1, by have := HDP.out; omega⟩
  rw [hdd] at c2
  rw [HBB4.out]
  go_wp2_with fail
  go_ret
  rw [← HRR.out]
  refine ⟨rfl, HB4.out.setCell HP4.out.low _, ?_⟩
  rw [hdd]
  exact HP4.out.depth dd (by omega)
theorem prs8 (f : Nat) (ts : List Tk) (i d : Nat) : prs (f + 1) 8 ts i d = if d = 8 then some ⟨false, ts, i, d⟩
    else wants 12 ts i d fun ts i d => andThen (prs f 5 ts i (d + 1)) fun ts i d => wants 13 ts i d fun ts i d => some ⟨true, ts, i, d - 1⟩ := rfl
set_option maxHeartbeats 2000000 in
theorem bracketed69_step (f : Nat) (s0 : Cal 212 5 f) : CalB 212 8 (f + 1) := by
  intro w B pb v ts i d r hpw he
  rw [prs8] at he
  have HP : Hid _ := hpw
  have hd8 := hpw.deep
  have c2 := hpw.c2
  have f2 := hpw.free 2
  by_cases h8 : d = 8
  · rw [if_pos h8, Option.some.injEq] at he
    have HRR : Hid _ := he
    have h88 : ((d : Int) == 8) = true := by simpa using (by omega : (d : Int) = 8)
    clear he hpw h8
    go_enter Tryz.func210, Tryz.ntmps210
    go_wp2_with fail
    go_ret
    rw [← HRR.out]
    exact ⟨rfl, Below.refl _ _, HP.out⟩
  rw [if_neg h8] at he
  have h88 : ((d : Int) == 8) = false := by simpa using (by omega : (d : Int) ≠ 8)
  have hdl : d < 8 := by omega
  have HW : Hid _ := he
  clear he hpw h8
  go_enter Tryz.func210, Tryz.ntmps210
  go_wp2_with fail
  refine (take1 12 (by decide) _ B pb v _ _ _ HP).mono ?_
  rintro e w1 ⟨rfl, hb1, hp1⟩
  rcases wants_cases HW.out with ⟨hB, hI, hrr⟩ | ⟨hB, hI, hk1⟩
  · have HBB : Hid _ := hB
    rw [hI] at hp1
    have HRR : Hid _ := hrr
    clear HW hB hI hrr
    rw [HBB.out]
    go_wp2_with fail
    go_ret
    rw [← HRR.out]
    exact ⟨rfl, hb1, hp1⟩
  have HBB : Hid _ := hB
  rw [hI] at hp1
  have HB1 : Hid _ := hb1
  have HP1 : Hid _ := hp1
  have HK1 : Hid _ := hk1
  clear HW hB hI hb1 hp1 hk1 c2 f2
  have c2 := HP1.out.c2
  have f2 := HP1.out.free 2
  rw [HBB.out]
  obtain ⟨r1, hr1, hc1⟩ := and_cases HK1.out
  have HR1 : Hid _ := hr1
  have HC1 : Hid _ := hc1
  clear HK1 hr1 hc1
  have HP2 : Hid (PW (w1.setCell ⟨pb, 2, none⟩ (.int .i64 ((d : Int) + 1))) B pb v ts (i + 1) (d + 1)) := HP1.out.depth (d + 1) (by omega)
  have HB2 : Hid (Below B w (w1.setCell ⟨pb, 2, none⟩ (.int .i64 ((d : Int) + 1)))) := HB1.out.setCell HP1.out.low _
  go_wp2_with fail
  refine (s0 _ B pb v _ _ _ r1 HP2.out HR1.out).mono ?_
  rintro e w2 ⟨rfl, hb2, hp2⟩
  have HB3 : Hid (Below B w w2) := HB2.out.trans hb2
  have HP3 : Hid _ := hp2
  clear hb2 hp2 HB1 HB2 HP2 c2 f2
  rcases HC1.out with ⟨hok, hrr⟩ | ⟨hok, hk3⟩
  · have HO : Hid _ := hok
    have HRR : Hid _ := hrr
    clear HC1 hok hrr
    rw [HO.out]
    go_wp2_with fail
    go_ret
    rw [← HRR.out, HO.out]
    exact ⟨rfl, HB3.out, HP3.out⟩
  have HDP : Hid (r1.d = d + 1) := prs_d _ _ _ _ _ _ HR1.out hok
  have HO : Hid _ := hok
  have HK3 : Hid _ := hk3
  clear HC1 hok hk3
  rw [HO.out]
  go_wp2_with fail
  refine (take1 13 (by decide) _ B pb v _ _ _ HP3).mono ?_
  rintro e w3 ⟨rfl, hb4, hp4⟩
  rcases wants_cases HK3.out with ⟨hB, hI, hrr⟩ | ⟨hB, hI, hk4⟩
  · have HBB4 : Hid _ := hB
    rw [hI] at hp4
    have HRR : Hid _ := hrr
    clear HK3 hB hI hrr
    rw [HBB4.out]
    go_wp2_with fail
    go_ret
    rw [← HRR.out]
    exact ⟨rfl, HB3.out.trans hb4, hp4⟩
  have HBB4 : Hid _ := hB
  rw [hI] at hp4
  rw [Option.some.injEq] at hk4
  have HRR : Hid _ := hk4
  have HB4 : Hid (Below B w w3) := HB3.out.trans hb4
  have HP4 : Hid _ := hp4
  clear HK3 hB hI hk4 hb4 hp4 HB3
  have c2 := HP4.out.c2
  have f2 := HP4.out.free 2
  have hd1 := HP4.out.deep
  obtain ⟨dd, hdd⟩ : ∃ dd, r1.d = dd + 1 := ⟨r1.d - 1, by have := HDP.out; omega⟩
  rw [hdd] at c2
  rw [HBB4.out]
  go_wp2_with fail
  go_ret
  rw [← HRR.out]
  refine ⟨rfl, HB4.out.setCell HP4.out.low _, ?_⟩
  rw [hdd]
  exact HP4.out.depth dd (by omega)
end Go.Proofs.YtlpmmmmniojflaaGreatDoor
/- The parser's function 'atom'; then all of them, at any number of steps. -/
namespace Go.Proofs.YtlpmmmmniojflaaGreatDoor
open Go.RowKit
theorem prs3 (f : Nat) (ts : List Tk) (i d : Nat) : prs (f + 1) 3 ts i d =
      if kindAt (ngs 8 ts i).1 (ngs 8 ts i).2 ∈ [1, 2, 3, 4, 5] then some ⟨true, (ngs 8 ts i).1, (ngs 8 ts i).2 + 1, d⟩
      else if kindAt (ngs 8 ts i).1 (ngs 8 ts i).2 = 12 then prs f 6 (ngs 8 ts i).1 (ngs 8 ts i).2 d
      else if kindAt (ngs 8 ts i).1 (ngs 8 ts i).2 = 6 then prs f 7 (ngs 8 ts i).1 ((ngs 8 ts i).2 + 1) d
      else if kindAt (ngs 8 ts i).1 (ngs 8 ts i).2 ∈ [7, 8] then prs f 6 (ngs 8 ts i).1 ((ngs 8 ts i).2 + 1) d
      else if kindAt (ngs 8 ts i).1 (ngs 8 ts i).2 ∈ [9, 10] then prs f 8 (ngs 8 ts i).1 ((ngs 8 ts i).2 + 1) d
      else some ⟨false, (ngs 8 ts i).1, (ngs 8 ts i).2, d⟩ := rfl
set_option maxHeartbeats 2000000 in
theorem atom_step (f : Nat) (s6 : CalB 93 6 f) (s7 : CalB 211 7 f) (s8 : CalB 212 8 f) : Cal 188 3 (f + 1) := by
  intro w B pb v ts i d r hpw he
  rw [prs3] at he
  have HP : Hid _ := hpw
  have HE : Hid _ := he
  clear hpw he
  go_enter Tryz.func188, Tryz.ntmps188
  go_wp2_with fail
  refine (negations_any _ B pb v ts i d HP).mono ?_
  rintro e w1 ⟨rfl, hb1, hp1⟩
  generalize (ngs 8 ts i).1 = us at *
  generalize (ngs 8 ts i).2 = j at *
  have HP1 : Hid _ := hp1
  have HB1 : Hid _ := hb1
  clear hp1 hb1
  go_wp2_with fail
  refine (kind_any _ B pb v _ _ _ HP1).mono ?_
  rintro e w2 ⟨rfl, n, rfl⟩
  have hle := HP1.out.le
  have hsm := HP1.out.small
  obtain ⟨q, hq⟩ : ∃ q, kindAt us j = q := ⟨_, rfl⟩
  have HQ : Hid _ := hq
  have hE2 := HE.out
  rw [hq] at hE2 ⊢
  clear hq HE
  have c1 := HP1.out.c1
  have f1 := HP1.out.free 1
  have HL : Hid (q ≠ 0 → j < us.length) := by unfold Hid; rw [← HQ.out]; exact kindAt_lt
  have HN : Hid (j < us.length → PW ((w1.drewN n).setCell ⟨pb, 1, none⟩ (.int .i64 ((j : Int) + 1))) B pb v us (j + 1) d) := fun h => (HP1.out.drewN n).next (j + 1) h
  have HBN : Hid (Below B w ((w1.drewN n).setCell ⟨pb, 1, none⟩ (.int .i64 ((j : Int) + 1)))) := (below_drewN HB1.out n).setCell HP1.out.low _
  by_cases k1 : q ∈ [1, 2, 3, 4, 5]
  · rw [if_pos k1, Option.some.injEq] at hE2
    have HRR : Hid _ := hE2
    have hjl := HL.out (by intro h; rw [h] at k1; simp at k1)
    clear hE2 HQ HL
    simp only [List.mem_cons, List.not_mem_nil, or_false] at k1
    rcases k1 with rfl | rfl | rfl | rfl | rfl
    all_goals
      go_wp2_with fail
      go_ret
      rw [← HRR.out]
      exact ⟨rfl, HBN.out, HN.out hjl⟩
  rw [if_neg k1] at hE2
  by_cases k2 : q = 12
  · rw [if_pos k2] at hE2
    have HR : Hid _ := hE2
    clear hE2 HQ HL HN HBN k1
    subst k2
    go_wp2_with fail
    refine (s6 _ B pb v _ _ _ r (HP1.out.drewN n) HR.out).mono ?_
    rintro e w3 ⟨rfl, hb3, hp3⟩
    go_wp2_with fail
    go_ret
    exact ⟨rfl, (below_drewN HB1.out n).trans hb3, hp3⟩
  rw [if_neg k2] at hE2
  by_cases k3 : q = 6
  · rw [if_pos k3] at hE2
    have HR : Hid _ := hE2
    have hjl := HL.out (by omega)
    clear hE2 HQ HL k1 k2
    subst k3
    go_wp2_with fail
    refine (s7 _ B pb v _ _ _ r (HN.out hjl) HR.out).mono ?_
    rintro e w3 ⟨rfl, hb3, hp3⟩
    go_wp2_with fail
    go_ret
    exact ⟨rfl, HBN.out.trans hb3, hp3⟩
  rw [if_neg k3] at hE2
  by_cases k4 : q ∈ [7, 8]
  · rw [if_pos k4] at hE2
    have HR : Hid _ := hE2
    simp only [List.mem_cons, List.not_mem_nil, or_false] at k4
    have hjl := HL.out (by omega)
    clear hE2 HQ HL k1 k2 k3
    rcases k4 with rfl | rfl
    all_goals
      go_wp2_with fail
      refine (s6 _ B pb v _ _ _ r (HN.out hjl) HR.out).mono ?_
      rintro e w3 ⟨rfl, hb3, hp3⟩
      go_wp2_with fail
      go_ret
      exact ⟨rfl, HBN.out.trans hb3, hp3⟩
  rw [if_neg k4] at hE2
  by_cases k5 : q ∈ [9, 10]
  · rw [if_pos k5] at hE2
    have HR : Hid _ := hE2
    simp only [List.mem_cons, List.not_mem_nil, or_false] at k5
    have hjl := HL.out (by omega)
    clear hE2 HQ HL k1 k2 k3 k4
    rcases k5 with rfl | rfl
    all_goals
      go_wp2_with fail
      refine (s8 _ B pb v _ _ _ r (HN.out hjl) HR.out).mono ?_
      rintro e w3 ⟨rfl, hb3, hp3⟩
      go_wp2_with fail
      go_ret
      exact ⟨rfl, HBN.out.trans hb3, hp3⟩
  rw [if_neg k5, Option.some.injEq] at hE2
  have HRR : Hid _ := hE2
  simp only [List.mem_cons, List.not_mem_nil, or_false, not_or] at k1 k4 k5
  obtain ⟨a1, a2, a3, a4, a5⟩ := k1
  obtain ⟨a7, a8⟩ := k4
  obtain ⟨a9, a10⟩ := k5
  have b1 : (q == 1) = false := by simpa using a1
  have b2 : (q == 2) = false := by simpa using a2
  have b3 : (q == 3) = false := by simpa using a3
  have b4 : (q == 4) = false := by simpa using a4
  have b5 : (q == 5) = false := by simpa using a5
  have b6 : (q == 6) = false := by simpa using k3
  have b7 : (q == 7) = false := by simpa using a7
  have b8 : (q == 8) = false := by simpa using a8
  have b9 : (q == 9) = false := by simpa using a9
  have b10 : (q == 10) = false := by simpa using a10
  have b12 : (q == 12) = false := by simpa using k2
  clear hE2 HQ HL HN HBN k2 k3 a1 a2 a3 a4 a5 a7 a8 a9 a10 c1 f1
  go_wp2_with fail
  go_ret
  rw [← HRR.out]
  exact ⟨rfl, below_drewN HB1.out n, HP1.out.drewN n⟩
theorem parser_all (f : Nat) : ∀ g, g ≤ f → Cal 93 0 g ∧ Cal 122 1 g ∧ Cal 155 2 g ∧ Cal 188 3 g ∧ Cal 211 4 g ∧ Cal 212 5 g ∧ CalB 93 6 g ∧ CalB 211 7 g ∧ CalB 212 8 g := by
  induction f with
  | zero =>
    intro g hg
    obtain rfl : g = 0 := by omega
    have c : ∀ fn tag, Cal fn tag 0 := fun fn tag w B pb v ts i d r _ h => by simp [prs] at h
    have b : ∀ fn tag, CalB fn tag 0 := fun fn tag w B pb v ts i d r _ h => by simp [prs] at h
    exact ⟨c _ _, c _ _, c _ _, c _ _, c _ _, c _ _, b _ _, b _ _, b _ _⟩
  | succ f ih =>
    intro g hg
    by_cases hl : g ≤ f
    · exact ih g hl
    · obtain rfl : g = f + 1 := by omega
      obtain ⟨h0, h1, h2, h3, h4, h5, h6, h7, h8⟩ := ih f (Nat.le_refl _)
      exact ⟨formula_step f h1, sum_step f fun g hg => (ih g hg).2.2.1, product_step f fun g hg => (ih g hg).2.2.2.1, atom_step f h6 h7 h8, choice_step f h0, corners_step f,
        bracketed14_step f h0, bracketed68_step f h4, bracketed69_step f h5⟩
theorem formula_any (f : Nat) : Cal 93 0 f := (parser_all f f (Nat.le_refl _)).1
end Go.Proofs.YtlpmmmmniojflaaGreatDoor
/- The plain parser comes to an end: so many steps are enough. -/
namespace Go.Proofs.YtlpmmmmniojflaaGreatDoor
open Go.RowKit
def rk (tag : Nat) : Nat := if tag = 4 then 6 else if tag = 0 then 5 else if tag = 1 then 4 else if tag = 2 then 3 else if tag = 3 then 2 else if tag = 5 then 0 else 1
theorem ngs_facts : ∀ (n : Nat) (ts : List Tk) (i : Nat), i ≤ ts.length → i ≤ (ngs n ts i).2 ∧ (ngs n ts i).2 ≤ ts.length ∧ (ngs n ts i).1.length = ts.length
  | 0, ts, i, h => ⟨Nat.le_refl _, h, rfl⟩
  | n + 1, ts, i, h => by
    unfold ngs
    by_cases hk : kindAt ts i = 17
    · rw [if_pos hk]
      have hl := kindAt_lt (ts := ts) (i := i) (by rw [hk]; decide)
      have := ngs_facts n (mark ts i) (i + 1) (by rw [mark_len]; omega)
      rw [mark_len] at this
      omega
    · rw [if_neg hk]; exact ⟨Nat.le_refl _, h, rfl⟩
def Fine (ts : List Tk) (i : Nat) (r : PR) : Prop := i ≤ r.i ∧ r.i ≤ ts.length ∧ r.ts.length = ts.length
theorem and_fine {x : Option PR} {k : List Tk → Nat → Nat → Option PR} {ts : List Tk} {i : Nat} (hx : ∃ r, x = some r ∧ Fine ts i r)
    (hk : ∀ us j d, us.length = ts.length → i ≤ j → j ≤ ts.length → ∃ r, k us j d = some r ∧ Fine us j r) : ∃ r, andThen x k = some r ∧ Fine ts i r := by
  obtain ⟨r, rfl, h1, h2, h3⟩ := hx
  unfold andThen
  by_cases hok : r.ok = true
  · simp only [hok, if_true]
    obtain ⟨r2, e2, g1, g2, g3⟩ := hk r.ts r.i r.d h3 h1 h2
    exact ⟨r2, e2, by omega, by omega, by omega⟩
  · simp only [hok, Bool.false_eq_true, if_false]
    exact ⟨r, rfl, h1, h2, h3⟩
theorem wants_fine {q : Int} (hq : q ≠ 0) {ts : List Tk} {i d : Nat} {k : List Tk → Nat → Nat → Option PR} (hi : i ≤ ts.length)
    (hk : i + 1 ≤ ts.length → ∃ r, k ts (i + 1) d = some r ∧ Fine ts (i + 1) r) : ∃ r, wants q ts i d k = some r ∧ Fine ts i r := by
  unfold wants
  by_cases h : kindAt ts i = q
  · rw [if_pos h]
    obtain ⟨r, e, g1, g2, g3⟩ := hk (kindAt_lt (by rw [h]; exact hq))
    exact ⟨r, e, by omega, g2, g3⟩
  · rw [if_neg h]; exact ⟨_, rfl, Nat.le_refl _, hi, rfl⟩
theorem if_fine {ks : List Int} (h0 : ¬ (0 : Int) ∈ ks) {ts : List Tk} {i d : Nat} {y : Option PR} (hi : i ≤ ts.length)
    (hk : i + 1 ≤ ts.length → ∃ r, y = some r ∧ Fine ts (i + 1) r) : ∃ r, (if kindAt ts i ∈ ks then y else some ⟨true, ts, i, d⟩) = some r ∧ Fine ts i r := by
  by_cases h : kindAt ts i ∈ ks
  · rw [if_pos h]
    obtain ⟨r, e, g1, g2, g3⟩ := hk (kindAt_lt (fun e => h0 (by rw [← e]; exact h)))
    exact ⟨r, e, by omega, g2, g3⟩
  · rw [if_neg h]; exact ⟨_, rfl, Nat.le_refl _, hi, rfl⟩
theorem prs_fuel : ∀ (f tag : Nat) (ts : List Tk) (i d : Nat), i ≤ ts.length → 8 * (ts.length - i) + rk tag < f → ∃ r, prs f tag ts i d = some r ∧ Fine ts i r
  | 0, _, _, _, _, _, h => by omega
  | f + 1, tag, ts, i, d, hi, hf => by
    have ih := prs_fuel f
    unfold prs
    by_cases t0 : tag = 0
    · rw [if_pos t0]
      have e : rk tag = 5 := by rw [t0]; rfl
      refine and_fine (ih 1 ts i d hi (by have : rk 1 = 4 := rfl; omega)) fun us j d hu h1 h2 => if_fine (by decide) (by omega) fun h3 => ?_
      exact ih 1 us (j + 1) d h3 (by have : rk 1 = 4 := rfl; omega)
    rw [if_neg t0]
    by_cases t1 : tag = 1
    · rw [if_pos t1]
      have e : rk tag = 4 := by rw [t1]; rfl
      refine and_fine (ih 2 ts i d hi (by have : rk 2 = 3 := rfl; omega)) fun us j d hu h1 h2 => if_fine (by decide) (by omega) fun h3 => ?_
      exact ih 1 us (j + 1) d h3 (by have : rk 1 = 4 := rfl; omega)
    rw [if_neg t1]
    by_cases t2 : tag = 2
    · rw [if_pos t2]
      have e : rk tag = 3 := by rw [t2]; rfl
      refine and_fine (ih 3 ts i d hi (by have : rk 3 = 2 := rfl; omega)) fun us j d hu h1 h2 => if_fine (by decide) (by omega) fun h3 => ?_
      exact ih 2 us (j + 1) d h3 (by have : rk 2 = 3 := rfl; omega)
    rw [if_neg t2]
    by_cases t3 : tag = 3
    · rw [if_pos t3]
      have e : rk tag = 2 := by rw [t3]; rfl
      obtain ⟨n1, n2, n3⟩ := ngs_facts 8 ts i hi
      generalize (ngs 8 ts i).1 = us at *
      generalize (ngs 8 ts i).2 = j at *
      have lift : ∀ (x : Option PR) (m : Nat), i ≤ m → (∃ r, x = some r ∧ Fine us m r) → ∃ r, x = some r ∧ Fine ts i r := fun x m hm ⟨r, e, g1, g2, g3⟩ => ⟨r, e, by omega, by omega, by omega⟩
      by_cases k1 : kindAt us j ∈ [1, 2, 3, 4, 5]
      · rw [if_pos k1]
        have hl := kindAt_lt (ts := us) (i := j) (fun e => by rw [e] at k1; revert k1; decide)
        exact ⟨_, rfl, by simp only; omega, by simp only; omega, n3⟩
      rw [if_neg k1]
      by_cases k2 : kindAt us j = 12
      · rw [if_pos k2]; exact lift _ j n1 (ih 6 us j d (by omega) (by have : rk 6 = 1 := rfl; omega))
      rw [if_neg k2]
      by_cases k3 : kindAt us j = 6
      · rw [if_pos k3]
        have hl := kindAt_lt (ts := us) (i := j) (fun e => by rw [e] at k3; revert k3; decide)
        exact lift _ (j + 1) (by omega) (ih 7 us (j + 1) d (by omega) (by have : rk 7 = 1 := rfl; omega))
      rw [if_neg k3]
      by_cases k4 : kindAt us j ∈ [7, 8]
      · rw [if_pos k4]
        have hl := kindAt_lt (ts := us) (i := j) (fun e => by rw [e] at k4; revert k4; decide)
        exact lift _ (j + 1) (by omega) (ih 6 us (j + 1) d (by omega) (by have : rk 6 = 1 := rfl; omega))
      rw [if_neg k4]
      by_cases k5 : kindAt us j ∈ [9, 10]
      · rw [if_pos k5]
        have hl := kindAt_lt (ts := us) (i := j) (fun e => by rw [e] at k5; revert k5; decide)
        exact lift _ (j + 1) (by omega) (ih 8 us (j + 1) d (by omega) (by have : rk 8 = 1 := rfl; omega))
      rw [if_neg k5]
      exact ⟨_, rfl, n1, n2, n3⟩
    rw [if_neg t3]
    have r0 : rk 0 = 5 := rfl
    by_cases t4 : tag = 4
    · rw [if_pos t4]
      have e : rk tag = 6 := by rw [t4]; rfl
      refine and_fine (ih 0 ts i d hi (by omega)) fun us j d hu h1 h2 => wants_fine (by decide) (by omega) fun h3 => ?_
      refine and_fine (ih 0 us (j + 1) d h3 (by omega)) fun us2 j2 d2 hu2 h12 h22 => wants_fine (by decide) (by omega) fun h32 => ?_
      exact ih 0 us2 (j2 + 1) d2 h32 (by omega)
    rw [if_neg t4]
    by_cases t5 : tag = 5
    · rw [if_pos t5]
      exact wants_fine (by decide) hi fun h1 => wants_fine (by decide) h1 fun h2 => wants_fine (by decide) h2 fun h3 => ⟨_, rfl, Nat.le_refl _, h3, rfl⟩
    rw [if_neg t5]
    have e : rk tag = 1 := by unfold rk; rw [if_neg t4, if_neg t0, if_neg t1, if_neg t2, if_neg t3, if_neg t5]
    by_cases t8 : d = 8
    · rw [if_pos t8]; exact ⟨_, rfl, Nat.le_refl _, hi, rfl⟩
    rw [if_neg t8]
    refine wants_fine (by decide) hi fun h1 => ?_
    refine and_fine ?_ fun us j d hu h1 h2 => wants_fine (by decide) (by omega) fun h3 => ⟨_, rfl, Nat.le_refl _, h3, rfl⟩
    have hr : ∀ t, rk t ≤ 6 := fun t => by unfold rk; (repeat' split) <;> omega
    exact ih _ ts (i + 1) (d + 1) h1 (by have := hr (if tag = 6 then 0 else if tag = 7 then 4 else 5); omega)
end Go.Proofs.YtlpmmmmniojflaaGreatDoor
/- The program's 'Read': a formula's tokens, or its fault and place. -/
namespace Go.Proofs.YtlpmmmmniojflaaGreatDoor
open Go.RowKit
structure RD where
  e : Int
  p : Nat
  ts : List Tk
def rdP (n : Nat) (r : PR) : RD :=
  if r.ok = false ∨ r.i < r.ts.length then ⟨3, plcAt r.ts r.i n, []⟩
  else match chk r.ts.length r.ts with
    | some p => ⟨4, p, []⟩
    | none => ⟨0, 0, r.ts⟩
def rdA (l : List UInt8) : RD :=
  match (scn l.length l 0).2 with
    | some p => ⟨2, p, []⟩
    | none => match prs (8 * (scn l.length l 0).1.length + 6) 0 (scn l.length l 0).1 0 0 with
      | none => ⟨3, 0, []⟩
      | some r => rdP l.length r
def rd (l : List UInt8) : RD := if 120 < l.length then ⟨1, 0, []⟩ else rdA l
theorem ownsRow_TL {w : World} {B : Nat} {v : Value} {ts : List Tk} (ho : w.ownsRow B 142 3 v ts.length (ts.flatMap tkCells)) : TL w v ts := by
  rcases ho.2 with ⟨hv, hn⟩ | ⟨g, cap, cur, hv, hg, hh, hnc, hcm, hcs, htake⟩
  · exact Or.inl ⟨hv, List.length_eq_zero_iff.1 hn⟩
  · refine Or.inr ⟨g, cap, hv, hnc, fun j t hj => ?_⟩
    rw [hv] at ho
    have hjl : j < ts.length := (List.getElem?_eq_some_iff.1 hj).1
    obtain ⟨f0, f1, f2⟩ := flat_get ts j t hj
    exact ⟨by rw [ho.cellAt (j * 3) (by omega)]; exact f0, by rw [ho.cellAt (j * 3 + 1) (by omega)]; exact f1, by rw [ho.cellAt (j * 3 + 2) (by omega)]; exact f2⟩
theorem scn_len : ∀ (n : Nat) (l : List UInt8) (p : Nat), (scn n l p).1.length ≤ l.length
  | 0, _, _ => by simp [scn]
  | _ + 1, [], _ => by simp [scn]
  | n + 1, c :: r, p => by
    unfold scn
    by_cases h1 : c = 32
    · rw [if_pos h1]; have := scn_len n r (p + 1); simp only [List.length_cons]; omega
    rw [if_neg h1]
    by_cases h2 : (tok1 (c :: r)).1 = 0
    · rw [if_pos h2]; simp
    rw [if_neg h2]
    have h3 := tok1_size (c :: r) h2
    have := scn_len n ((c :: r).drop (tok1 (c :: r)).2) (p + (tok1 (c :: r)).2)
    simp only [List.length_cons, List.length_drop] at this h3 ⊢
    omega
theorem owns_below2 {w w' : World} {base : Nat} {e : TypeId} {size : Nat} {v : Value} {n : Nat} {xs : List Value} (h : w.ownsRow base e size v n xs) (hb : Below w.heap.size w w') : w'.ownsRow base e size v n xs := by
  refine ⟨h.1, ?_⟩
  rcases h.2 with h2 | ⟨g, cap, cur, hv, hg, hh, r⟩
  · exact Or.inl h2
  · exact Or.inr ⟨g, cap, cur, hv, hg, by rw [hb.block g ((Array.getElem?_eq_some_iff.1 hh).1)]; exact hh, r⟩
set_option maxHeartbeats 2000000 in
theorem readAll_any (s : ByteArray) (w : World) (hE : Hid (ErrVar w)) (hs : s.size ≤ 100000) :
    Calls Tryz.prog 63 #[.string s] w fun e w' => Below w.heap.size w w' ∧ ∃ v, e = .returned (.tuple #[v, .int .i64 (rdA s.data.toList).e, .int .i64 (rdA s.data.toList).p]) ∧
      ((rdA s.data.toList).e ≠ 0 → v = .slice none 0 0) ∧ w'.ownsRow w.heap.size 142 3 v (rdA s.data.toList).ts.length ((rdA s.data.toList).ts.flatMap tkCells) := by
  have hlen := len_eq s
  have HR : Hid (rdA s.data.toList = match (scn s.size s.data.toList 0).2 with
    | some p => ⟨2, p, []⟩
    | none => match prs (8 * (scn s.size s.data.toList 0).1.length + 6) 0 (scn s.size s.data.toList 0).1 0 0 with
      | none => ⟨3, 0, []⟩
      | some r => rdP s.size r) := by unfold Hid rdA; rw [hlen]
  have HL : Hid _ := scn_len s.size s.data.toList 0
  rw [hlen] at HL
  clear hlen
  go_enter Tryz.func63, Tryz.ntmps63
  go_wp2_with fail
  refine (scan_any s _ (by omega) hE).mono ?_
  rintro e w1 ⟨hb1, ⟨hn, v, rfl, hown⟩ | ⟨p, hn, rfl⟩⟩
  · have HR2 := HR.out
    rw [hn] at HR2
    have hl := HL.out
    generalize (scn s.size s.data.toList 0).1 = ts at *
    simp only at HR2
    obtain ⟨r, hr, hfine⟩ := prs_fuel (8 * ts.length + 6) 0 ts 0 0 (by omega) (by have : rk 0 = 5 := rfl; omega)
    rw [hr] at HR2
    simp only at HR2
    obtain ⟨ao, c, hv⟩ : ∃ ao c, v = .slice ao ts.length c := by
      rcases hown.2 with ⟨hv, hn0⟩ | ⟨g, cap, cur, hv, _⟩
      · exact ⟨none, 0, by rw [hv, hn0]⟩
      · exact ⟨_, _, hv⟩
    subst hv
    have HRR : Hid _ := HR2
    have HPR : Hid _ := hr
    have HB1 : Hid _ := hb1
    have HO : Hid (w1.ownsRow w.heap.size 142 3 (.slice ao ts.length c) ts.length (ts.flatMap tkCells)) := hown
    have HSZ : Hid (w.heap.size ≤ w1.heap.size) := hb1.size
    have HPW : Hid (PW (w1.alloc (.cells #[.slice ao ts.length c, .int .i64 0, .int .i64 0] 194)) w.heap.size w1.heap.size (.slice ao ts.length c) ts 0 0) := by
      refine ⟨heap_alloc_new w1 _, HO.out.alloc _, HSZ.out, ?_, Nat.zero_le _, by omega, by omega⟩
      intro hcon
      have := (HO.out.lt _ hcon).2
      omega
    clear HR HR2 hr hb1 hn hown HL
    go_wp2_with fail
    refine (formula_any (8 * ts.length + 6) _ w.heap.size w1.heap.size _ ts 0 0 r HPW.out HPR.out).mono ?_
    rintro e w2 ⟨rfl, hb2, hp2⟩
    have HB2 : Hid (Below w.heap.size w w2) := (HB1.out.alloc HSZ.out _).trans hb2
    have HP2 : Hid _ := hp2
    have c1 := hp2.c1
    have HOW : Hid _ := hp2.own
    have hle := hp2.le
    obtain ⟨_, hf2, hf3⟩ := hfine
    clear hb2 hp2 HPW
    cases hok : r.ok
    · have HRR2 : Hid (rdA s.data.toList = ⟨3, plcAt r.ts r.i s.size, []⟩) := by unfold Hid; rw [HRR.out, rdP, if_pos (Or.inl hok)]
      clear HRR hok
      go_wp2_with fail
      refine (place_any _ w.heap.size w1.heap.size _ r.ts r.i r.d s.size HP2).mono ?_
      rintro e w3 ⟨rfl, m, rfl⟩
      go_wp2_with fail
      go_ret3
      rw [HRR2.out]
      exact ⟨below_drewN HB2.out m, _, rfl, fun _ => rfl, World.ownsRow_nil _ _ _ _⟩
    by_cases hin : r.i < r.ts.length
    · have HRR2 : Hid (rdA s.data.toList = ⟨3, plcAt r.ts r.i s.size, []⟩) := by unfold Hid; rw [HRR.out, rdP, if_pos (Or.inr hin)]
      have hini : (r.i : Int) < (ts.length : Int) := by omega
      clear HRR hok
      go_wp2_with fail
      refine (place_any _ w.heap.size w1.heap.size _ r.ts r.i r.d s.size HP2).mono ?_
      rintro e w3 ⟨rfl, m, rfl⟩
      go_wp2_with fail
      go_ret3
      rw [HRR2.out]
      exact ⟨below_drewN HB2.out m, _, rfl, fun _ => rfl, World.ownsRow_nil _ _ _ _⟩
    · have HRR2 : Hid (rdA s.data.toList = match chk r.ts.length r.ts with | some p => ⟨4, p, []⟩ | none => ⟨0, 0, r.ts⟩) := by
        unfold Hid; rw [HRR.out, rdP, if_neg (by simp [hok, hin])]
      have hini : ¬ (r.i : Int) < (ts.length : Int) := by omega
      clear HRR hok
      go_wp2_with fail
      refine (check_any _ _ r.ts (ownsRow_TL HOW.out) (by omega)).mono ?_
      rintro e w3 ⟨hb3, ⟨hck, rfl⟩ | ⟨p, hck, rfl⟩⟩
      all_goals have HB3 : Hid (Below w.heap.size w w3) := HB2.out.trans (hb3.mono HB2.out.size)
      all_goals have HOW3 : Hid _ := owns_below2 HOW.out hb3
      all_goals clear hb3
      · have HF : Hid (rdA s.data.toList = ⟨0, 0, r.ts⟩) := by unfold Hid; rw [HRR2.out, hck]
        clear HRR2 hck
        go_wp2_with fail
        go_ret3
        rw [HF.out]
        exact ⟨HB3.out, _, rfl, fun h => absurd rfl h, HOW3.out⟩
      · have HF : Hid (rdA s.data.toList = ⟨4, p, []⟩) := by unfold Hid; rw [HRR2.out, hck]
        clear HRR2 hck
        go_wp2_with fail
        go_ret3
        rw [HF.out]
        exact ⟨HB3.out, _, rfl, fun _ => rfl, World.ownsRow_nil _ _ _ _⟩
  · have HR2 : Hid (rdA s.data.toList = ⟨2, p, []⟩) := by unfold Hid; rw [HR.out, hn]
    clear HR hn
    go_wp2_with fail
    go_ret3
    rw [HR2.out]
    exact ⟨hb1, _, rfl, fun _ => rfl, World.ownsRow_nil _ _ _ _⟩
set_option maxHeartbeats 1000000 in
theorem read_any (s : ByteArray) (w : World) (hE : Hid (ErrVar w)) (hs : s.size ≤ maxLen) :
    Calls Tryz.prog 41 #[.string s] w fun e w' => Below w.heap.size w w' ∧ ∃ v, e = .returned (.tuple #[v, .int .i64 (rd s.data.toList).e, .int .i64 (rd s.data.toList).p]) ∧
      ((rd s.data.toList).e ≠ 0 → v = .slice none 0 0) ∧ w'.ownsRow w.heap.size 142 3 v (rd s.data.toList).ts.length ((rd s.data.toList).ts.flatMap tkCells) := by
  have hlen := len_eq s
  unfold maxLen at hs
  by_cases h120 : 120 < s.size
  · have HR : Hid (rd s.data.toList = ⟨1, 0, []⟩) := by unfold Hid rd; rw [if_pos (by omega)]
    clear hlen
    go_enter Tryz.func41, Tryz.ntmps41
    go_wp2_with fail
    go_ret3
    rw [HR.out]
    exact ⟨Below.refl _ _, _, rfl, fun _ => rfl, World.ownsRow_nil _ _ _ _⟩
  have HR : Hid (rd s.data.toList = rdA s.data.toList) := by unfold Hid rd; rw [if_neg (by omega)]
  clear hlen
  go_enter Tryz.func41, Tryz.ntmps41
  go_wp2_with fail
  refine (readAll_any s _ hE (by omega)).mono ?_
  rintro e w1 ⟨hb1, v, rfl, hv, hown⟩
  have HB : Hid _ := hb1
  have HV : Hid _ := hv
  have HO : Hid _ := hown
  clear hb1 hv hown
  go_wp2_with fail
  go_ret3
  rw [HR.out]
  exact ⟨HB.out, _, rfl, HV.out, HO.out⟩
end Go.Proofs.YtlpmmmmniojflaaGreatDoor
/- 'grammar.Number', exactly. -/
set_option linter.unusedVariables false
namespace Go.Proofs.YtlpmmmmniojflaaGreatDoor
open Go.RowKit
def pI (x : List UInt8) : Option Int := match Lib.parseIntB 64 x with | .ok v => some v | _ => none
def numT (ts : List Tk) : Option Int :=
  match ts with
  | [t] => if t.k = 1 then (pI t.x).map wrap64 else none
  | [m, t] => if m.k = 23 ∧ t.k = 1 then (pI t.x).map fun v => wrap64 (-v) else none
  | _ => none
theorem parse_ex (t : ByteArray) (ht : t.size ≤ 1000) (w : World) (hE : ErrVar w) (hS : SynVar w) :
    Calls Tryz.prog 108 #[.string t, .int .i64 10, .int .i64 64] w fun e w' => ∃ x y, e = .returned (.tuple #[.int .i64 x, y]) ∧ ((y = .nilIface ∧ pI t.data.toList = some x) ∨ ((∃ N, y = .iface 269 (.pointer (some ⟨N, 0, none⟩))) ∧ pI t.data.toList = none)) ∧ Below w.heap.size w w' := by
  unfold pI
  cases h : Lib.parseIntB 64 t.data.toList with
  | ok v =>
    refine (Tryz.strconv_ParseInt_10_at64_ok t (by omega) v h w).mono ?_
    rintro e w' ⟨rfl, rfl | ⟨t, rfl⟩⟩
    · exact ⟨_, _, rfl, .inl ⟨rfl, rfl⟩, Below.refl _ _⟩
    · exact ⟨_, _, rfl, .inl ⟨rfl, rfl⟩, Lib.bytesWorld_below w 5 t⟩
  | range =>
    obtain ⟨tp, p, hv⟩ := hE
    refine (Tryz.strconv_ParseInt_10_at64_range_var t (by omega) h tp p w hv).mono ?_
    rintro e w' ⟨N, rfl, _, _, hb⟩
    exact ⟨_, _, rfl, .inr ⟨⟨N, rfl⟩, rfl⟩, hb⟩
  | _ =>
    obtain ⟨tp, p, hv⟩ := hS
    have hs := (Any.strconv_ParseInt_10_at64_syntax_var Tryz.laysC174 t (by omega) h tp p w hv).mono (R' := fun e w' => ∃ x y, e = .returned (.tuple #[.int .i64 x, y]) ∧ ((y = .nilIface ∧ (none : Option Int) = some x) ∨ ((∃ N, y = .iface 269 (.pointer (some ⟨N, 0, none⟩))) ∧ (none : Option Int) = none)) ∧ Below w.heap.size w w') (by
      rintro e w' ⟨N, rfl, _, _, hb⟩
      exact ⟨_, _, rfl, .inr ⟨⟨N, rfl⟩, rfl⟩, hb⟩)
    exact hs
def NumE (W : World) (o : Option Int) (e : Ending) (w' : World) : Prop := e = .returned (.tuple #[.int .i64 (o.getD 0), .bool o.isSome]) ∧ Below W.heap.size W w'
set_option maxHeartbeats 1000000 in
theorem numx_plain (w : World) (ao : Option Addr) (m c : Nat) (k : Int) (t : ByteArray) (hm : m ≤ 1000000) (hk : k ≠ 23) (hao : 0 < m → ∃ g, ao = some ⟨g, 0, none⟩ ∧ w.cell? ⟨g, 0, none⟩ = some (.int .i64 k) ∧ (m = 1 → w.cell? ⟨g, 1, none⟩ = some (.string t) ∧ t.size ≤ 1000))
    (hE : Hid (ErrVar w)) (hS : Hid (SynVar w)) : Calls Tryz.prog 79 #[.slice ao m c] w (NumE w (if m = 1 ∧ k = 1 then (pI t.data.toList).map wrap64 else none)) := by
  by_cases h0 : 0 < m
  · obtain ⟨g, rfl, hc, ht⟩ := hao h0
    have h0i : (0 : Int) < (m : Int) := by omega
    have bk : (k == 23) = false := by simpa using hk
    by_cases h1 : m = 1
    · obtain ⟨ht1, hts⟩ := ht h1
      have HTS : Hid _ := hts
      clear ht hts hk hao
      subst h1
      by_cases hk1 : k = 1
      · have bk1 : (k != 1) = false := by simpa using hk1
        rw [if_pos ⟨rfl, hk1⟩]
        clear hk1
        go_enter Tryz.func79, Tryz.ntmps79
        go_wp2_with fail
        refine (parse_ex t HTS.out _ hE.out hS.out).mono ?_
        rintro e w1 ⟨x, y, rfl, ⟨rfl, hp⟩ | ⟨⟨N, rfl⟩, hp⟩, hb⟩
        · have HB : Hid _ := hb
          have HP : Hid _ := hp
          clear hb hp
          go_wp2_with fail
          go_ret2
          unfold NumE
          rw [HP.out]
          exact ⟨rfl, HB.out⟩
        · have HB : Hid _ := hb
          have HP : Hid _ := hp
          clear hb hp
          go_wp2_with fail
          go_ret2
          unfold NumE
          rw [HP.out]
          exact ⟨rfl, HB.out⟩
      · have bk1 : (k != 1) = true := by simpa using hk1
        rw [if_neg (fun h => hk1 h.2)]
        clear hk1
        go_enter Tryz.func79, Tryz.ntmps79
        go_wp2_with fail
        go_ret2
        exact ⟨rfl, Below.refl _ _⟩
    · have b1 : ((m : Int) != 1) = true := by simpa using (by omega : (m : Int) ≠ 1)
      rw [if_neg (fun h => h1 h.1)]
      clear h1 hk ht hao
      go_enter Tryz.func79, Tryz.ntmps79
      go_wp2_with fail
      go_ret2
      exact ⟨rfl, Below.refl _ _⟩
  · have e : m = 0 := by omega
    subst e
    rw [if_neg (by omega)]
    clear hao hk h0
    go_enter Tryz.func79, Tryz.ntmps79
    go_wp2_with fail
    go_ret2
    exact ⟨rfl, Below.refl _ _⟩
set_option maxHeartbeats 1000000 in
theorem numx_minus (w : World) (g m c : Nat) (k : Int) (t : ByteArray) (hm : m ≤ 1000000) (hmc : m + 1 ≤ c) (hc : w.cell? ⟨g, 0, none⟩ = some (.int .i64 23)) (hao : m = 1 → w.cell? ⟨g, 3, none⟩ = some (.int .i64 k) ∧ w.cell? ⟨g, 4, none⟩ = some (.string t) ∧ t.size ≤ 1000)
    (hE : Hid (ErrVar w)) (hS : Hid (SynVar w)) : Calls Tryz.prog 79 #[.slice (some ⟨g, 0, none⟩) (m + 1) c] w (NumE w (if m = 1 ∧ k = 1 then (pI t.data.toList).map fun v => wrap64 (-v) else none)) := by
  by_cases h1 : m = 1
  · obtain ⟨hc3, ht1, hts⟩ := hao h1
    subst h1
    have HTS : Hid _ := hts
    clear hts hao
    by_cases hk1 : k = 1
    · have bk1 : (k != 1) = false := by simpa using hk1
      rw [if_pos ⟨rfl, hk1⟩]
      clear hk1
      go_enter Tryz.func79, Tryz.ntmps79
      go_wp2_with fail
      refine (parse_ex t HTS.out _ hE.out hS.out).mono ?_
      rintro e w1 ⟨x, y, rfl, ⟨rfl, hp⟩ | ⟨⟨N, rfl⟩, hp⟩, hb⟩
      · have HB : Hid _ := hb
        have HP : Hid _ := hp
        clear hb hp
        go_wp2_with fail
        go_ret2
        unfold NumE
        rw [HP.out]
        exact ⟨rfl, HB.out⟩
      · have HB : Hid _ := hb
        have HP : Hid _ := hp
        clear hb hp
        go_wp2_with fail
        go_ret2
        unfold NumE
        rw [HP.out]
        exact ⟨rfl, HB.out⟩
    · have bk1 : (k != 1) = true := by simpa using hk1
      rw [if_neg (fun h => hk1 h.2)]
      clear hk1
      go_enter Tryz.func79, Tryz.ntmps79
      go_wp2_with fail
      go_ret2
      exact ⟨rfl, Below.refl _ _⟩
  · have b1 : ((m : Int) != 1) = true := by simpa using (by omega : (m : Int) ≠ 1)
    rw [if_neg (fun h => h1 h.1)]
    clear h1 hao
    go_enter Tryz.func79, Tryz.ntmps79
    go_wp2_with fail
    all_goals
      go_ret2
      exact ⟨rfl, Below.refl _ _⟩
theorem numx_any (w : World) (v : Value) (ts : List Tk) (h : TL w v ts) (hs : ts.length ≤ 1000000) (hx : ∀ t ∈ ts, t.x.length ≤ 1000) (hE : ErrVar w) (hS : SynVar w) :
    Calls Tryz.prog 79 #[v] w (NumE w (numT ts)) := by
  have sz : ∀ t ∈ ts, (⟨t.x.toArray⟩ : ByteArray).size ≤ 1000 := fun t ht => by have := hx t ht; simp only [ByteArray.size, List.size_toArray]; exact this
  rcases h with ⟨rfl, rfl⟩ | ⟨g, cap, rfl, hcap, hc⟩
  · exact numx_plain w none 0 0 0 ⟨#[]⟩ (by omega) (by omega) (by omega) hE hS
  match ts, hcap, hc, sz, hs with
  | [], _, _, _, _ => exact numx_plain w _ 0 cap 0 ⟨#[]⟩ (by omega) (by omega) (by omega) hE hS
  | [t], hcap, hc, sz, hs =>
    have h0 := hc 0 t rfl
    by_cases hk : t.k = 23
    · rw [hk] at h0
      have := numx_minus w g 0 cap 0 ⟨#[]⟩ (by omega) hcap h0.1 (by omega) hE hS
      have e : numT [t] = if 0 = 1 ∧ (0 : Int) = 1 then (pI [] : Option Int).map fun v => wrap64 (-v) else none := by
        show (if t.k = 1 then _ else none) = _
        rw [if_neg (by omega), if_neg (by omega)]
      rw [e]; exact this
    · have := numx_plain w _ 1 cap t.k ⟨t.x.toArray⟩ hs hk (fun _ => ⟨g, rfl, h0.1, fun _ => ⟨h0.2.1, sz t (by simp)⟩⟩) hE hS
      have e : numT [t] = if 1 = 1 ∧ t.k = 1 then (pI t.x).map wrap64 else none := by unfold numT; simp
      rw [e]; exact this
  | t :: u :: r, hcap, hc, sz, hs =>
    have h0 := hc 0 t rfl
    have h1 := hc 1 u rfl
    by_cases hk : t.k = 23
    · rw [hk] at h0
      have := numx_minus w g (u :: r).length cap u.k ⟨u.x.toArray⟩ (by simp only [List.length_cons] at hs ⊢; omega) hcap h0.1 (fun _ => ⟨h1.1, h1.2.1, sz u (by simp)⟩) hE hS
      have e : numT (t :: u :: r) = if (u :: r).length = 1 ∧ u.k = 1 then (pI u.x).map fun v => wrap64 (-v) else none := by
        cases r with
        | nil => unfold numT; simp [hk]
        | cons a b => unfold numT; simp
      rw [e]; exact this
    · have := numx_plain w _ (t :: u :: r).length cap t.k ⟨t.x.toArray⟩ hs hk (fun _ => ⟨g, rfl, h0.1, fun h => absurd h (by simp)⟩) hE hS
      have e : numT (t :: u :: r) = if (t :: u :: r).length = 1 ∧ t.k = 1 then (pI t.x).map wrap64 else none := by
        cases r with
        | nil => unfold numT; simp [hk]
        | cons a b => unfold numT; simp
      rw [e]; exact this
end Go.Proofs.YtlpmmmmniojflaaGreatDoor
