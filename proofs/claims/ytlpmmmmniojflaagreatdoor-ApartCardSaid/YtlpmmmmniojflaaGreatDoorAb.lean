/- The statement Apart, walked. -/
import Derived.Test.YtlpmmmmniojflaaGreatDoorAa
set_option linter.unusedVariables false
set_option linter.unusedSimpArgs false
namespace Go.Proofs.YtlpmmmmniojflaaGreatDoor
open Go.RowKit
set_option maxRecDepth 100000 in
set_option maxHeartbeats 16000000 in
theorem apart_w (vr : Value) (l : List ByteArray) (vo : Value) (lo : List ByteArray) (vh : Value) (hs : List Int) (store : Int) (hst : Hid (I64 store)) (w : World) (hr : Hid (RawS w vr l)) (ho : Hid (RawS w vo lo)) (hh : Hid (HowS w vh hs)) (hA : Hid (Amb w)) :
    Calls Tryz.prog 14 #[vr, vo, vh, .int .i64 store] w fun e w' => e = .returned (.bool true) ∧ Below w.heap.size w w' := by
  obtain ⟨E, hE⟩ := env_ex
  have HE : Hid (EnvOK E) := hE
  clear hE
  obtain ⟨ar, cr, hvr⟩ := hr.out.len
  obtain ⟨ao, co, hvo⟩ := ho.out.len
  obtain ⟨ah, ch, hvh⟩ := hh.out.len
  subst hvr
  subst hvo
  subst hvh
  go_enter Tryz.func14, Tryz.ntmps14
  go_wp2_with fail
  refine (begin_s E store hst.out w w (Below.refl _ _)).mono ?_
  rintro e w1 ⟨x, rfl, g1⟩
  have X1 : Hid (ShS E w w1 x fs0 fs0 (k0 (pk store 65))) := g1.out.1
  clear g1
  go_wp2_with fail
  refine (begin_s E store hst.out w w1 X1.out.bel).mono ?_
  rintro e w2 ⟨y, rfl, g2⟩
  have X2 : Hid (ShS E w w2 x fs0 fs0 (k0 (pk store 65))) := X1.out.below g2.out.2.1
  have Y2 : Hid (ShS E w w2 y fs0 fs0 (k0 (pk store 65))) := g2.out.1
  have HXY : Hid (x ≠ y) := ne_newA X1.out.sr.lt g2.out.2.2
  clear g2 X1
  go_wp2_with fail
  refine (begin_s E 64 (by unfold I64; decide) w w2 X2.out.bel).mono ?_
  rintro e w3 ⟨z, rfl, g3⟩
  have A3 : Hid (Ap E w w3 x y z fs0 fs0 (k0 (pk store 65)) fs0 fs0 (k0 (pk store 65))) := ⟨X2.out.below g3.out.2.1, Y2.out.below g3.out.2.1, ⟨_, _, _, g3.out.1⟩, HXY.out, ne_newA X2.out.sr.lt g3.out.2.2, ne_newA Y2.out.sr.lt g3.out.2.2⟩
  clear g3 X2 Y2 HXY
  generalize k0 (pk store 65) = k00 at *
  go_wp2_with fail
  go_loopw [15] (fun s wr => ∃ i : Nat, s = .int .i64 i ∧ Hid (i ≤ 12 ∧ i ≤ l.length) ∧ Hid (∃ fl fs k, Ap E w wr x y z fl fs k fl fs k)) (fun s _ => (100 - intOf s).toNat)
  case atStart => exact ⟨0, rfl, ⟨Nat.zero_le _, Nat.zero_le _⟩, ⟨_, _, _, A3.out⟩⟩
  case round =>
    obtain ⟨i, rfl, HI, HP⟩ := hrel
    clear A3
    obtain ⟨fl, fs, k, hp⟩ := HP.out
    have HA0 : Hid (Ap E w wr x y z fl fs k fl fs k) := hp
    clear hp HP
    by_cases hi : i < l.length
    · by_cases hi2 : i < 12
      · obtain ⟨n1, n2, n3, n4, n5⟩ := apNums hi2
        have HII : Hid (i < 12 ∧ i < l.length) := ⟨hi2, hi⟩
        have HN5 : Hid (I64 (i : Int)) := n5
        have hii := lt_c hi
        obtain ⟨a, cap, s, e, hcap, hmax, hsub⟩ := hr.out.sub hi
        cases e
        have HSUB : Hid (RawS w (.slice (some (a.add i)) 1 (cr - i)) [s]) := hsub
        have HMX : Hid (l.length ≤ maxLen) := hmax
        have hsl := slice_one (a := a) hi hcap
        clear hi hi2 HI n5 hsub hmax
        go_wp2_with fail
        refine (play_x HE hA (x := x) HA0.out.hx HSUB (.inl ⟨rfl, rfl⟩)).mono ?_
        rintro e u1 ⟨rfl, g1⟩
        obtain ⟨k1, g2, g3, g4⟩ := g1.out
        obtain rfl := g3 rfl
        rw [flN_nil] at g2
        have A1 : Hid (Ap E w u1 x y z fl (plF ([s].take 20) fs) k1 fl fs k1) := HA0.out.onx g4 g2
        clear g1 g2 g3 g4 HA0
        by_cases hio : i < lo.length
        · have hioi := lt_c hio
          obtain ⟨a2, cap2, s2, e, hcap2, hmax2, hsub2⟩ := ho.out.sub hio
          cases e
          have HSUB2 : Hid (RawS w (.slice (some (a2.add i)) 1 (co - i)) [s2]) := hsub2
          have hsl2 := slice_one (a := a2) hio hcap2
          clear hio hsub2 hmax2
          go_wp2_with fail
          obtain ⟨fz, fsz, kz, hz⟩ := A1.out.hz
          have Z1 : Hid (ShS E w (u1.alloc (.cells #[.int .i64 1] 3)) z fz fsz kz) := hz.below (bl1 _ _)
          have HP1 : Hid (HowX (u1.alloc (.cells #[.int .i64 1] 3)) z (.slice (some ⟨u1.heap.size, 0, none⟩) 1 1) [1]) := HowX.one (rnew _ _ _) (Nat.ne_of_gt hz.sr.lt) (by unfold I64; decide)
          have A2 : Hid (Ap E w (u1.alloc (.cells #[.int .i64 1] 3)) x y z fl (plF ([s].take 20) fs) k1 fl fs k1) := A1.out.below (bl1 _ _)
          clear hz A1
          generalize u1.alloc (.cells #[.int .i64 1] 3) = u2 at *
          refine (play_x HE hA Z1 HSUB2 HP1).mono ?_
          rintro e u3 ⟨rfl, g1⟩
          obtain ⟨kz3, g2, _, g4⟩ := g1.out
          have A3 : Hid (Ap E w u3 x y z fl (plF ([s].take 20) fs) k1 fl fs k1) := A2.out.onz g4 g2
          clear g1 g2 g4 A2 Z1 HP1 HSUB2
          go_wp2_with fail
          refine (play_x HE hA (x := y) A3.out.hy HSUB (.inl ⟨rfl, rfl⟩)).mono ?_
          rintro e u4 ⟨rfl, g1⟩
          obtain ⟨k4, g2, g3, g4⟩ := g1.out
          obtain rfl := g3 rfl
          rw [flN_nil] at g2
          have A4 : Hid (Ap E w u4 x y z fl (plF ([s].take 20) fs) k4 fl (plF ([s].take 20) fs) k4) := A3.out.ony g4 g2
          clear g1 g2 g3 g4 A3
          generalize plF ([s].take 20) fs = f4 at *
          by_cases hih : i < hs.length
          · have hihi := lt_c hih
            obtain ⟨a3, cap3, zh, e, hcap3, hmax3, hzc, hzi⟩ := hh.out.num hih
            cases e
            have hcell : u4.cell? (a3.add i) = some (.int .i64 zh) := by rw [A4.out.hx.bel.cell (p := a3.add i) (World.block_lt_of_cell? _ _ hzc)]; exact hzc
            have HZI : Hid (I64 zh) := hzi
            clear hih hzc hmax3 hzi
            go_wp2_with fail
            refine (worked_n HE hA (x := x) A4.out.hx zh HZI).mono ?_
            rintro e u5 ⟨v5, k5, bg, rfl, g5⟩
            have A5 : Hid (Ap E w u5 x y z f4 f4 k5 fl f4 k4) := A4.out.onx g5.out.2.2.1 g5.out.1
            have HW5 : Hid (WorkP E k4 f4 (pk zh 9 / 3) (pk zh 9 % 3) k5 bg) := g5.out.2.1
            have HS5 : Hid (Slc u5 9 1 v5 bg.length (bg.map nmV)) := g5.out.2.2.2.1
            have HF5 : Hid (∀ g, v5.ownBlock = some g → u4.heap.size ≤ g) := g5.out.2.2.2.2
            have HL4 : Hid (x < u4.heap.size ∧ y < u4.heap.size ∧ z < u4.heap.size ∧ w.heap.size ≤ u4.heap.size) := A4.out.lts
            clear g5 A4
            obtain ⟨al, cl, hv5⟩ := HS5.out.len
            subst hv5
            generalize u4.heap.size = h4 at *
            go_wp2_with fail
            go_loopw [21] (fun s wr => ∃ j : Nat, s = .int .i64 j ∧ Hid (j ≤ bg.length) ∧ Hid (Mn u5 wr (.slice al bg.length cl) bg.length)) (fun s _ => (bg.length - intOf s).toNat)
            case atStart => exact ⟨0, rfl, Nat.zero_le _, ⟨⟨_, HS5.out⟩, .inl rfl⟩⟩
            case round =>
              obtain ⟨j, rfl, HJ, HM⟩ := hrel
              by_cases hj : j < bg.length
              · obtain ⟨g, o, q0, rfl, hcl, hmx, hcj, hfz, hst⟩ := HM.out.at hj
                obtain ⟨m1, m2⟩ := nx_nums hj hmx
                have hjj := lt_c hj
                have hj0 : 0 ≤ (j : Int) := Int.natCast_nonneg j
                have HJJ : Hid (j < bg.length) := hj
                have HST : Hid (∀ q, Mn u5 (wr.setCell ⟨g, o + j, none⟩ q) (.slice (some ⟨g, o, none⟩) bg.length cl) bg.length) := hst
                clear hj hst hmx HM HJ
                go_wp2_with fail
                exact ⟨⟨j + 1, rfl, HJJ.out, HST.out _⟩, mn_meas HJJ.out⟩
              · have hjj := ge_c hj
                have A6 : Hid (Ap E w wr x y z f4 f4 k5 fl f4 k4) := A5.out.mine HS5.out HM.out HF5.out HL4.out
                clear hj HJ HM A5 HS5 HF5 HL4
                go_wp2_with fail
                refine (worked_n HE hA (x := y) A6.out.hy zh HZI).mono ?_
                rintro e u7 ⟨v7, k7, bg7, rfl, g7⟩
                obtain ⟨e1, e2⟩ := HW5.out.same g7.out.2.1
                subst e1
                subst e2
                have A7 : Hid (Ap E w u7 x y z f4 f4 k5 f4 f4 k5) := A6.out.ony g7.out.2.2.1 g7.out.1
                have HS7 : Hid (Slc u7 9 1 v7 bg.length (bg.map nmV)) := g7.out.2.2.2.1
                clear g7 A6 HW5
                obtain ⟨am, cm, hv7⟩ := HS7.out.len
                subst hv7
                go_wp2_with fail
                refine (has_w u7 _ bg mineB HS7).mono ?_
                rintro e u8 ⟨rfl, rfl⟩
                rw [has_mine]
                go_wp2_with fail
                exact ⟨⟨i + 1, rfl, ⟨HII.out.1, HII.out.2⟩, ⟨_, _, _, A7.out⟩⟩, ap_meas HII.out.1⟩
          · have hihi := ge_c hih
            obtain ⟨zh, hzh⟩ : ∃ q : Int, q = (i : Int) := ⟨_, rfl⟩
            have HZI : Hid (I64 (i : Int)) := HN5.out
            clear hih hzh
            go_wp2_with fail
            refine (worked_n HE hA (x := x) A4.out.hx (i : Int) HZI).mono ?_
            rintro e u5 ⟨v5, k5, bg, rfl, g5⟩
            have A5 : Hid (Ap E w u5 x y z f4 f4 k5 fl f4 k4) := A4.out.onx g5.out.2.2.1 g5.out.1
            have HW5 : Hid (WorkP E k4 f4 (pk (i : Int) 9 / 3) (pk (i : Int) 9 % 3) k5 bg) := g5.out.2.1
            have HS5 : Hid (Slc u5 9 1 v5 bg.length (bg.map nmV)) := g5.out.2.2.2.1
            have HF5 : Hid (∀ g, v5.ownBlock = some g → u4.heap.size ≤ g) := g5.out.2.2.2.2
            have HL4 : Hid (x < u4.heap.size ∧ y < u4.heap.size ∧ z < u4.heap.size ∧ w.heap.size ≤ u4.heap.size) := A4.out.lts
            clear g5 A4
            obtain ⟨al, cl, hv5⟩ := HS5.out.len
            subst hv5
            generalize u4.heap.size = h4 at *
            go_wp2_with fail
            go_loopw [21] (fun s wr => ∃ j : Nat, s = .int .i64 j ∧ Hid (j ≤ bg.length) ∧ Hid (Mn u5 wr (.slice al bg.length cl) bg.length)) (fun s _ => (bg.length - intOf s).toNat)
            case atStart => exact ⟨0, rfl, Nat.zero_le _, ⟨⟨_, HS5.out⟩, .inl rfl⟩⟩
            case round =>
              obtain ⟨j, rfl, HJ, HM⟩ := hrel
              by_cases hj : j < bg.length
              · obtain ⟨g, o, q0, rfl, hcl, hmx, hcj, hfz, hst⟩ := HM.out.at hj
                obtain ⟨m1, m2⟩ := nx_nums hj hmx
                have hjj := lt_c hj
                have hj0 : 0 ≤ (j : Int) := Int.natCast_nonneg j
                have HJJ : Hid (j < bg.length) := hj
                have HST : Hid (∀ q, Mn u5 (wr.setCell ⟨g, o + j, none⟩ q) (.slice (some ⟨g, o, none⟩) bg.length cl) bg.length) := hst
                clear hj hst hmx HM HJ
                go_wp2_with fail
                exact ⟨⟨j + 1, rfl, HJJ.out, HST.out _⟩, mn_meas HJJ.out⟩
              · have hjj := ge_c hj
                have A6 : Hid (Ap E w wr x y z f4 f4 k5 fl f4 k4) := A5.out.mine HS5.out HM.out HF5.out HL4.out
                clear hj HJ HM A5 HS5 HF5 HL4
                go_wp2_with fail
                refine (worked_n HE hA (x := y) A6.out.hy (i : Int) HZI).mono ?_
                rintro e u7 ⟨v7, k7, bg7, rfl, g7⟩
                obtain ⟨e1, e2⟩ := HW5.out.same g7.out.2.1
                subst e1
                subst e2
                have A7 : Hid (Ap E w u7 x y z f4 f4 k5 f4 f4 k5) := A6.out.ony g7.out.2.2.1 g7.out.1
                have HS7 : Hid (Slc u7 9 1 v7 bg.length (bg.map nmV)) := g7.out.2.2.2.1
                clear g7 A6 HW5
                obtain ⟨am, cm, hv7⟩ := HS7.out.len
                subst hv7
                go_wp2_with fail
                refine (has_w u7 _ bg mineB HS7).mono ?_
                rintro e u8 ⟨rfl, rfl⟩
                rw [has_mine]
                go_wp2_with fail
                exact ⟨⟨i + 1, rfl, ⟨HII.out.1, HII.out.2⟩, ⟨_, _, _, A7.out⟩⟩, ap_meas HII.out.1⟩
        · have hioi := ge_c hio
          obtain ⟨u3, hu3⟩ : ∃ u, u = u1 := ⟨_, rfl⟩
          have A3 : Hid (Ap E w u1 x y z fl (plF ([s].take 20) fs) k1 fl fs k1) := A1.out
          clear hio A1 hu3
          go_wp2_with fail
          refine (play_x HE hA (x := y) A3.out.hy HSUB (.inl ⟨rfl, rfl⟩)).mono ?_
          rintro e u4 ⟨rfl, g1⟩
          obtain ⟨k4, g2, g3, g4⟩ := g1.out
          obtain rfl := g3 rfl
          rw [flN_nil] at g2
          have A4 : Hid (Ap E w u4 x y z fl (plF ([s].take 20) fs) k4 fl (plF ([s].take 20) fs) k4) := A3.out.ony g4 g2
          clear g1 g2 g3 g4 A3
          generalize plF ([s].take 20) fs = f4 at *
          by_cases hih : i < hs.length
          · have hihi := lt_c hih
            obtain ⟨a3, cap3, zh, e, hcap3, hmax3, hzc, hzi⟩ := hh.out.num hih
            cases e
            have hcell : u4.cell? (a3.add i) = some (.int .i64 zh) := by rw [A4.out.hx.bel.cell (p := a3.add i) (World.block_lt_of_cell? _ _ hzc)]; exact hzc
            have HZI : Hid (I64 zh) := hzi
            clear hih hzc hmax3 hzi
            go_wp2_with fail
            refine (worked_n HE hA (x := x) A4.out.hx zh HZI).mono ?_
            rintro e u5 ⟨v5, k5, bg, rfl, g5⟩
            have A5 : Hid (Ap E w u5 x y z f4 f4 k5 fl f4 k4) := A4.out.onx g5.out.2.2.1 g5.out.1
            have HW5 : Hid (WorkP E k4 f4 (pk zh 9 / 3) (pk zh 9 % 3) k5 bg) := g5.out.2.1
            have HS5 : Hid (Slc u5 9 1 v5 bg.length (bg.map nmV)) := g5.out.2.2.2.1
            have HF5 : Hid (∀ g, v5.ownBlock = some g → u4.heap.size ≤ g) := g5.out.2.2.2.2
            have HL4 : Hid (x < u4.heap.size ∧ y < u4.heap.size ∧ z < u4.heap.size ∧ w.heap.size ≤ u4.heap.size) := A4.out.lts
            clear g5 A4
            obtain ⟨al, cl, hv5⟩ := HS5.out.len
            subst hv5
            generalize u4.heap.size = h4 at *
            go_wp2_with fail
            go_loopw [21] (fun s wr => ∃ j : Nat, s = .int .i64 j ∧ Hid (j ≤ bg.length) ∧ Hid (Mn u5 wr (.slice al bg.length cl) bg.length)) (fun s _ => (bg.length - intOf s).toNat)
            case atStart => exact ⟨0, rfl, Nat.zero_le _, ⟨⟨_, HS5.out⟩, .inl rfl⟩⟩
            case round =>
              obtain ⟨j, rfl, HJ, HM⟩ := hrel
              by_cases hj : j < bg.length
              · obtain ⟨g, o, q0, rfl, hcl, hmx, hcj, hfz, hst⟩ := HM.out.at hj
                obtain ⟨m1, m2⟩ := nx_nums hj hmx
                have hjj := lt_c hj
                have hj0 : 0 ≤ (j : Int) := Int.natCast_nonneg j
                have HJJ : Hid (j < bg.length) := hj
                have HST : Hid (∀ q, Mn u5 (wr.setCell ⟨g, o + j, none⟩ q) (.slice (some ⟨g, o, none⟩) bg.length cl) bg.length) := hst
                clear hj hst hmx HM HJ
                go_wp2_with fail
                exact ⟨⟨j + 1, rfl, HJJ.out, HST.out _⟩, mn_meas HJJ.out⟩
              · have hjj := ge_c hj
                have A6 : Hid (Ap E w wr x y z f4 f4 k5 fl f4 k4) := A5.out.mine HS5.out HM.out HF5.out HL4.out
                clear hj HJ HM A5 HS5 HF5 HL4
                go_wp2_with fail
                refine (worked_n HE hA (x := y) A6.out.hy zh HZI).mono ?_
                rintro e u7 ⟨v7, k7, bg7, rfl, g7⟩
                obtain ⟨e1, e2⟩ := HW5.out.same g7.out.2.1
                subst e1
                subst e2
                have A7 : Hid (Ap E w u7 x y z f4 f4 k5 f4 f4 k5) := A6.out.ony g7.out.2.2.1 g7.out.1
                have HS7 : Hid (Slc u7 9 1 v7 bg.length (bg.map nmV)) := g7.out.2.2.2.1
                clear g7 A6 HW5
                obtain ⟨am, cm, hv7⟩ := HS7.out.len
                subst hv7
                go_wp2_with fail
                refine (has_w u7 _ bg mineB HS7).mono ?_
                rintro e u8 ⟨rfl, rfl⟩
                rw [has_mine]
                go_wp2_with fail
                exact ⟨⟨i + 1, rfl, ⟨HII.out.1, HII.out.2⟩, ⟨_, _, _, A7.out⟩⟩, ap_meas HII.out.1⟩
          · have hihi := ge_c hih
            obtain ⟨zh, hzh⟩ : ∃ q : Int, q = (i : Int) := ⟨_, rfl⟩
            have HZI : Hid (I64 (i : Int)) := HN5.out
            clear hih hzh
            go_wp2_with fail
            refine (worked_n HE hA (x := x) A4.out.hx (i : Int) HZI).mono ?_
            rintro e u5 ⟨v5, k5, bg, rfl, g5⟩
            have A5 : Hid (Ap E w u5 x y z f4 f4 k5 fl f4 k4) := A4.out.onx g5.out.2.2.1 g5.out.1
            have HW5 : Hid (WorkP E k4 f4 (pk (i : Int) 9 / 3) (pk (i : Int) 9 % 3) k5 bg) := g5.out.2.1
            have HS5 : Hid (Slc u5 9 1 v5 bg.length (bg.map nmV)) := g5.out.2.2.2.1
            have HF5 : Hid (∀ g, v5.ownBlock = some g → u4.heap.size ≤ g) := g5.out.2.2.2.2
            have HL4 : Hid (x < u4.heap.size ∧ y < u4.heap.size ∧ z < u4.heap.size ∧ w.heap.size ≤ u4.heap.size) := A4.out.lts
            clear g5 A4
            obtain ⟨al, cl, hv5⟩ := HS5.out.len
            subst hv5
            generalize u4.heap.size = h4 at *
            go_wp2_with fail
            go_loopw [21] (fun s wr => ∃ j : Nat, s = .int .i64 j ∧ Hid (j ≤ bg.length) ∧ Hid (Mn u5 wr (.slice al bg.length cl) bg.length)) (fun s _ => (bg.length - intOf s).toNat)
            case atStart => exact ⟨0, rfl, Nat.zero_le _, ⟨⟨_, HS5.out⟩, .inl rfl⟩⟩
            case round =>
              obtain ⟨j, rfl, HJ, HM⟩ := hrel
              by_cases hj : j < bg.length
              · obtain ⟨g, o, q0, rfl, hcl, hmx, hcj, hfz, hst⟩ := HM.out.at hj
                obtain ⟨m1, m2⟩ := nx_nums hj hmx
                have hjj := lt_c hj
                have hj0 : 0 ≤ (j : Int) := Int.natCast_nonneg j
                have HJJ : Hid (j < bg.length) := hj
                have HST : Hid (∀ q, Mn u5 (wr.setCell ⟨g, o + j, none⟩ q) (.slice (some ⟨g, o, none⟩) bg.length cl) bg.length) := hst
                clear hj hst hmx HM HJ
                go_wp2_with fail
                exact ⟨⟨j + 1, rfl, HJJ.out, HST.out _⟩, mn_meas HJJ.out⟩
              · have hjj := ge_c hj
                have A6 : Hid (Ap E w wr x y z f4 f4 k5 fl f4 k4) := A5.out.mine HS5.out HM.out HF5.out HL4.out
                clear hj HJ HM A5 HS5 HF5 HL4
                go_wp2_with fail
                refine (worked_n HE hA (x := y) A6.out.hy (i : Int) HZI).mono ?_
                rintro e u7 ⟨v7, k7, bg7, rfl, g7⟩
                obtain ⟨e1, e2⟩ := HW5.out.same g7.out.2.1
                subst e1
                subst e2
                have A7 : Hid (Ap E w u7 x y z f4 f4 k5 f4 f4 k5) := A6.out.ony g7.out.2.2.1 g7.out.1
                have HS7 : Hid (Slc u7 9 1 v7 bg.length (bg.map nmV)) := g7.out.2.2.2.1
                clear g7 A6 HW5
                obtain ⟨am, cm, hv7⟩ := HS7.out.len
                subst hv7
                go_wp2_with fail
                refine (has_w u7 _ bg mineB HS7).mono ?_
                rintro e u8 ⟨rfl, rfl⟩
                rw [has_mine]
                go_wp2_with fail
                exact ⟨⟨i + 1, rfl, ⟨HII.out.1, HII.out.2⟩, ⟨_, _, _, A7.out⟩⟩, ap_meas HII.out.1⟩
      · have hii := lt_c hi
        have hge : ¬ (i : Int) < 12 := ge_c (n := 12) hi2
        clear hi hi2 HI
        go_wp2_with fail
        refine (set_s hA (x := x) HA0.out.hx (t := t5) txt_5 (c := 47) (by unfold Hid; decide)).mono ?_
        rintro e u1 ⟨rfl, g1⟩
        have A1 : Hid (Ap E w u1 x y z fl (updF fs 47 t5) k fl fs k) := HA0.out.onx g1.out.2 g1.out.1
        clear g1 HA0
        go_wp2_with fail
        refine (set_s hA (x := y) A1.out.hy (t := t5) txt_5 (c := 47) (by unfold Hid; decide)).mono ?_
        rintro e u2 ⟨rfl, g1⟩
        have A2 : Hid (Ap E w u2 x y z fl (updF fs 47 t5) k fl (updF fs 47 t5) k) := A1.out.ony g1.out.2 g1.out.1
        have HF47 : Hid (updF fs 47 t5 47 = t5) := rfl
        clear g1 A1
        generalize updF fs 47 t5 = f2 at *
        go_wp2_with fail
        refine (worked_s HE hA (x := x) A2.out.hx 0 (by unfold Hid I64; decide)).mono ?_
        rintro e u3 ⟨v3, k3, bg3, rfl, g3⟩
        have A3 : Hid (Ap E w u3 x y z f2 f2 k3 fl f2 k) := A2.out.onx g3.out.2.2.1 g3.out.1
        clear g3 A2
        go_wp2_with fail
        refine (worked_s HE hA (x := y) A3.out.hy 0 (by unfold Hid I64; decide)).mono ?_
        rintro e u4 ⟨v4, k4, bg4, rfl, g4⟩
        have A4 : Hid (Ap E w u4 x y z f2 f2 k3 f2 f2 k4) := A3.out.ony g4.out.2.2.1 g4.out.1
        clear g4 A3
        go_wp2_with fail
        refine (alike_w A4.out.hx.sr A4.out.hy.sr (fun c _ => (A4.out.hy.kinv.v c).same (A4.out.hx.kinv.v c))).mono ?_
        rintro e u5 ⟨rfl, b5⟩
        have A5 : Hid (Ap E w u5 x y z f2 f2 k3 f2 f2 k4) := A4.out.below b5
        clear b5 A4
        go_wp2_with fail
        refine (is_s (x := x) A5.out.hx (c := 47) (by unfold Hid; decide) 5).mono ?_
        rintro e u6 ⟨rfl, g6⟩
        rw [show (k3.last 47).v = vI 5 from v_5 HE.out HF47.out A5.out.hx.kinv.v, eqB_self]
        have X6 : Hid (ShS E w u6 x f2 f2 k3) := g6.out.1
        clear g6 A5
        go_wp2_with fail
        go_ret
        exact ⟨rfl, X6.out.bel⟩
    · have hge := ge_c hi
      clear hi HI
      go_wp2_with fail
      refine (set_s hA (x := x) HA0.out.hx (t := t5) txt_5 (c := 47) (by unfold Hid; decide)).mono ?_
      rintro e u1 ⟨rfl, g1⟩
      have A1 : Hid (Ap E w u1 x y z fl (updF fs 47 t5) k fl fs k) := HA0.out.onx g1.out.2 g1.out.1
      clear g1 HA0
      go_wp2_with fail
      refine (set_s hA (x := y) A1.out.hy (t := t5) txt_5 (c := 47) (by unfold Hid; decide)).mono ?_
      rintro e u2 ⟨rfl, g1⟩
      have A2 : Hid (Ap E w u2 x y z fl (updF fs 47 t5) k fl (updF fs 47 t5) k) := A1.out.ony g1.out.2 g1.out.1
      have HF47 : Hid (updF fs 47 t5 47 = t5) := rfl
      clear g1 A1
      generalize updF fs 47 t5 = f2 at *
      go_wp2_with fail
      refine (worked_s HE hA (x := x) A2.out.hx 0 (by unfold Hid I64; decide)).mono ?_
      rintro e u3 ⟨v3, k3, bg3, rfl, g3⟩
      have A3 : Hid (Ap E w u3 x y z f2 f2 k3 fl f2 k) := A2.out.onx g3.out.2.2.1 g3.out.1
      clear g3 A2
      go_wp2_with fail
      refine (worked_s HE hA (x := y) A3.out.hy 0 (by unfold Hid I64; decide)).mono ?_
      rintro e u4 ⟨v4, k4, bg4, rfl, g4⟩
      have A4 : Hid (Ap E w u4 x y z f2 f2 k3 f2 f2 k4) := A3.out.ony g4.out.2.2.1 g4.out.1
      clear g4 A3
      go_wp2_with fail
      refine (alike_w A4.out.hx.sr A4.out.hy.sr (fun c _ => (A4.out.hy.kinv.v c).same (A4.out.hx.kinv.v c))).mono ?_
      rintro e u5 ⟨rfl, b5⟩
      have A5 : Hid (Ap E w u5 x y z f2 f2 k3 f2 f2 k4) := A4.out.below b5
      clear b5 A4
      go_wp2_with fail
      refine (is_s (x := x) A5.out.hx (c := 47) (by unfold Hid; decide) 5).mono ?_
      rintro e u6 ⟨rfl, g6⟩
      rw [show (k3.last 47).v = vI 5 from v_5 HE.out HF47.out A5.out.hx.kinv.v, eqB_self]
      have X6 : Hid (ShS E w u6 x f2 f2 k3) := g6.out.1
      clear g6 A5
      go_wp2_with fail
      go_ret
      exact ⟨rfl, X6.out.bel⟩
end Go.Proofs.YtlpmmmmniojflaaGreatDoor
