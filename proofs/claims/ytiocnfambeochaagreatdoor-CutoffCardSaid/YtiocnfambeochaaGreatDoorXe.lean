/- The statement Cutoff, walked. -/
import Derived.Test.YtiocnfambeochaaGreatDoorQ50
set_option linter.unusedVariables false
set_option linter.unusedSimpArgs false
namespace Go.Proofs.YtiocnfambeochaaGreatDoor
open Go.RowKit

theorem fmt_w (a : Int) (h : I64 a) (w : World) (hA : Amb w) : Calls Tryz.prog 57 #[.int .i64 a, .int .i64 10] w fun e w' => e = .returned (.string (litT a)) ∧ Below w.heap.size w w' := by
  have hA2 : Hid _ := hA
  have H : Hid _ := h
  go_enter Tryz.func57, Tryz.ntmps57
  go_wp2_with fail
  refine (Any.internal_strconv_FormatInt_10 (P := Tryz.prog) (ρ := Tryz.laysM171_ren) { Tryz.laysM171 with } a H.out.1 H.out.2 _ hA2.out.2.1).mono ?_
  rintro e w1 ⟨rfl, k, os, rfl⟩
  go_wp2_with fail
  go_ret
  exact ⟨rfl, below_grow _ w (Nat.le_refl _) k os⟩
theorem lit_w (a : Int) (h : I64 a) (w : World) (hA : Amb w) : Calls Tryz.prog 36 #[.int .i64 a] w fun e w' => e = .returned (.string (litT a)) ∧ Below w.heap.size w w' := by
  have hA2 : Hid _ := hA
  have H : Hid _ := h
  go_enter Tryz.func36, Tryz.ntmps36
  go_wp2_with fail
  refine (fmt_w a H.out _ hA2.out).mono ?_
  rintro e w1 ⟨rfl, hb⟩
  go_wp2_with fail
  go_ret
  exact ⟨rfl, hb⟩
theorem ad_txt {j : Nat} (h : j < 8) : nA j ++ (⟨#[32, 43, 32, 48]⟩ : ByteArray) = tAd j ∧ nA j ++ (⟨#[32, 42, 32, 48, 32, 43, 32, 53]⟩ : ByteArray) = tMu j := by
  rcases eight h with rfl | rfl | rfl | rfl | rfl | rfl | rfl | rfl <;> exact ⟨by kernel_rfl, by kernel_rfl⟩
theorem nA_nm (i : Nat) : nA i = nm (6 * i) := by
  unfold nA nm
  rw [show 6 * i % 6 = 0 by omega, show 6 * i / 6 = i by omega]
  rfl
theorem div4 {a0 : Int} (h : I64 a0) : IntKind.i64.wrap (a0.tdiv 4) = a0.tdiv 4 ∧ wrap64 (a0.tdiv 4) = a0.tdiv 4 ∧ Sm (a0.tdiv 4) := by
  unfold I64 at h
  have e : Sm (a0.tdiv 4) := by
    unfold Sm
    rcases Int.le_total 0 a0 with h0 | h0
    · rw [Int.tdiv_eq_ediv_of_nonneg h0]; omega
    · have e : a0.tdiv 4 = -((-a0).tdiv 4) := by rw [Int.neg_tdiv, Int.neg_neg]
      rw [e, Int.tdiv_eq_ediv_of_nonneg (by omega)]; omega
  refine ⟨?_, ?_, e⟩
  · unfold Sm at e
    generalize a0.tdiv 4 = q at *
    rw [IntKind.wrap_i64]; omega
  · unfold Sm at e
    generalize a0.tdiv 4 = q at *
    unfold wrap64; omega
theorem div4x {a0 : Int} (h : I64 a0) : ∃ a, IntKind.i64.wrap (a0.tdiv 4) = a ∧ wrap64 (a0.tdiv 4) = a ∧ Sm a := ⟨_, div4 h⟩
theorem sm_i {a : Int} (h : Sm a) : I64 a := by unfold Sm at h; unfold I64; omega
theorem ctSum {m n : Nat} (h : 3 + m = n) (hn : n ≤ 7) : IntKind.i64.wrap (3 + (m : Int)) = (n : Int) ∧ wrap64 (3 + (m : Int)) = (n : Int) := ⟨by rw [IntKind.wrap_i64]; omega, by unfold wrap64; omega⟩
theorem ctSub {m n : Nat} (h : m + 2 = n) (hn : n ≤ 7) : IntKind.i64.wrap ((n : Int) - 2) = (m : Int) ∧ wrap64 ((n : Int) - 2) = (m : Int) := ⟨by rw [IntKind.wrap_i64]; omega, by unfold wrap64; omega⟩
theorem ctOne {m n : Nat} (h : 1 + m = n) (hn : n ≤ 7) : IntKind.i64.wrap (1 + (m : Int)) = (n : Int) ∧ wrap64 (1 + (m : Int)) = (n : Int) := ⟨by rw [IntKind.wrap_i64]; omega, by unfold wrap64; omega⟩
theorem ct_has {E : Env} (hE : EnvOK E) {a b : Int} (ha : Sm a) (hb : Sm b) {p n : Nat} (hp : 1 ≤ p) (hn : n ≤ 8) {k k' : Kp} {o y : Nat} {bg : List Nat} (hk : KInv E (ctG p n (litT a)) k) (ho : o < 3) (h : WorkP E k (ctG p n (litT b)) o y k' bg) : ∀ i, i < n → p < i → y ≠ 0 → hasB bg (nA i) = false := fun i hi hpi hy => by
  have hf := fsT_ct (p := p) (n := n) hn (txt_lit b hb.big)
  rw [nA_nm, hasB_iff (fun c hc => (h.bgOK hE hk hf ho c hc).1) (by omega), decide_eq_false (ct_idle hE ha hb hp hn hk ho hy h hi hpi)]
set_option maxRecDepth 100000 in
set_option maxHeartbeats 16000000 in
theorem cutoff_w (n0 p0 a0 b0 o0 y0 store : Int) (hn : Hid (I64 n0)) (hp : Hid (I64 p0)) (ha : Hid (I64 a0)) (hb : Hid (I64 b0)) (ho : Hid (I64 o0)) (hy : Hid (I64 y0)) (hs : Hid (I64 store)) (w : World) (hA : Hid (Amb w)) :
    Calls Tryz.prog 12 #[.int .i64 n0, .int .i64 p0, .int .i64 a0, .int .i64 b0, .int .i64 o0, .int .i64 y0, .int .i64 store] w fun e w' => e = .returned (.bool true) ∧ Below w.heap.size w w' := by
  obtain ⟨E, hE⟩ := env_ex
  have HE : Hid (EnvOK E) := hE
  obtain ⟨n, hn'⟩ : ∃ n, 3 + pk n0 5 = n := ⟨_, rfl⟩
  obtain ⟨m, hm'⟩ : ∃ m, m + 2 = n := ⟨n - 2, by omega⟩
  obtain ⟨p, hp'⟩ : ∃ p, 1 + pk p0 m = p := ⟨_, rfl⟩
  obtain ⟨o, ho'⟩ : ∃ o, pk o0 3 = o := ⟨_, rfl⟩
  obtain ⟨y, hy'⟩ : ∃ y, pk y0 3 = y := ⟨_, rfl⟩
  have hm0 : 0 < m := by omega
  have hn7 : n ≤ 7 := by have := pk_lt n0 (n := 5) (by omega); omega
  have hpm : p + 1 < n := by have := pk_lt p0 hm0; omega
  have HN7 : Hid (n ≤ 7) := hn7
  have HM : Hid (0 < m ∧ m ≤ 1000) := ⟨hm0, by omega⟩
  have HP : Hid (1 ≤ p ∧ p < n) := ⟨by omega, by omega⟩
  have HN0 : Hid (1 ≤ n) := by unfold Hid; omega
  have HO3 : Hid (o < 3) := by unfold Hid; rw [← ho']; exact pk_lt o0 (by omega)
  have HY3 : Hid (y < 3) := by unfold Hid; rw [← hy']; exact pk_lt y0 (by omega)
  have HOO : Hid (pk o0 3 = o) := ho'
  have HYY : Hid (pk y0 3 = y) := hy'
  have hp7 : p ≤ 7 := by omega
  obtain ⟨s1, s2⟩ := ctSum hn' hn7
  obtain ⟨s3, s4⟩ := ctSub hm' hn7
  obtain ⟨s5, s6⟩ := ctOne hp' hp7
  obtain ⟨a, d1, d2, d3⟩ := div4x ha.out
  obtain ⟨b, d4, d5, d6⟩ := div4x hb.out
  have HSA : Hid (Sm a) := d3
  have HSB : Hid (Sm b) := d6
  clear hE hn' hm' hp' ho' hy' hm0 hn7 hpm d3 d6 hp7
  go_enter Tryz.func12, Tryz.ntmps12
  go_wp2_with fail
  refine (begin_s E store hs.out w w (Below.refl _ _)).mono ?_
  rintro e w1 ⟨x, rfl, g1⟩
  have H1 : Hid (ShS E w w1 x fs0 fs0 (k0 (pk store 65))) := g1.out.1
  clear g1
  generalize k0 (pk store 65) = k at *
  go_wp2_with fail
  refine (pick_any n0 5 hn.out (by omega) (by omega) _).mono ?_
  rintro e w2 ⟨rfl, rfl⟩
  go_wp2_with fail
  refine (pick_any p0 m hp.out HM.out.1 HM.out.2 _).mono ?_
  rintro e w2 ⟨rfl, rfl⟩
  go_wp2_with fail
  refine (pick_any o0 3 ho.out (by omega) (by omega) _).mono ?_
  rintro e w2 ⟨rfl, rfl⟩
  rw [HOO.out]
  go_wp2_with fail
  refine (pick_any y0 3 hy.out (by omega) (by omega) _).mono ?_
  rintro e w2 ⟨rfl, rfl⟩
  rw [HYY.out]
  clear s1 s2 s3 s4
  go_wp2_with fail
  refine (lit_w a (sm_i HSA.out) _ (hA.out.below H1.out.bel)).mono ?_
  rintro e w3 ⟨rfl, g3⟩
  have H3 : Hid (ShS E w w3 x fs0 fs0 k) := H1.out.below g3
  clear g3 H1
  go_wp2_with fail
  refine (set_s hA H3 (t := litT a) (txt_lit a HSA.out.big) (c := 0) (by unfold Hid; decide)).mono ?_
  rintro e w4 ⟨rfl, g4⟩
  have H4 : Hid (ShS E w w4 x fs0 (ctG p 1 (litT a)) k) := by have h := g4.out.1; rw [ctG_start (p := p)] at h; exact h
  clear g4 H3 d1 d2
  go_wp2_with fail
  go_loopw [17, 18] (fun u s wr => u = .bool true ∧ ∃ i : Nat, s = .int .i64 i ∧ Hid (1 ≤ i ∧ i ≤ n) ∧ Hid (ShS E w wr x fs0 (ctG p i (litT a)) k)) (fun _ s _ => (100 - intOf s).toNat)
  case atStart => exact ⟨rfl, 1, rfl, ⟨Nat.le_refl _, HN0.out⟩, H4⟩
  case round =>
    obtain ⟨rfl, i, rfl, HI, HH⟩ := hrel
    clear H4
    by_cases hi : i < n
    · have HII : Hid (i < n) := hi
      have HI8 : Hid (i < 8) := Nat.lt_of_lt_of_le hi (Nat.le_succ_of_le HN7.out)
      obtain ⟨j, hj⟩ : ∃ j, i = j + 1 := ⟨i - 1, (Nat.sub_add_cancel HI.out.1).symm⟩
      have HJ : Hid (i = j + 1) := hj
      have HJ7 : Hid (j < 7) := by have := HI8.out; rw [hj] at this; exact Nat.lt_of_succ_lt_succ this
      have HJ8 : Hid (j < 8) := Nat.lt_succ_of_lt HJ7.out
      have hii := lt_c hi
      obtain ⟨i1, i2, i3, i4, i5, i6⟩ := num7 HI8.out
      obtain ⟨j1, j2, j3, j4, j5, j6⟩ := num7 HJ8.out
      obtain ⟨y1, y2⟩ := ctPrev hj HI8.out
      have hsz : (nA j).size = 2 := rfl
      obtain ⟨c1, c2⟩ := ad_txt HJ8.out
      have HNX : Hid (1 ≤ i) := HI.out.1
      clear hi HI hj
      by_cases hip : i = p
      · have HIP : Hid (i = p) := hip
        have HTX : Hid (ctT p j = tMu j) := by unfold Hid ctT; rw [if_pos (by rw [← hip]; exact HJ.out.symm)]
        clear hip
        rw [← HIP.out]
        go_wp2_with fail
        refine (name_w HJ8.out _).mono ?_
        rintro e u1 ⟨rfl, e1⟩
        have HHa : Hid (ShS E w u1 x fs0 (ctG p i (litT a)) k) := HH.out.below e1
        clear e1 HH
        go_wp2_with fail
        refine (name_w HJ8.out _).mono ?_
        rintro e u2 ⟨rfl, e2⟩
        have HHb : Hid (ShS E w u2 x fs0 (ctG p i (litT a)) k) := HHa.out.below e2
        clear e2 HHa
        go_wp2_with fail
        refine (name_w HI8.out _).mono ?_
        rintro e u3 ⟨rfl, e3⟩
        have HHc : Hid (ShS E w u3 x fs0 (ctG p i (litT a)) k) := HHb.out.below e3
        clear e3 HHb
        go_wp2_with fail
        refine (set_s hA HHc (t := tMu j) (txt_mu HJ7.out) (c := 6 * i) (nA_cell HI8.out)).mono ?_
        rintro e u4 ⟨rfl, g4⟩
        have HHd : Hid (ShS E w u4 x fs0 (ctG p (i + 1) (litT a)) k) := by
          have h := g4.out.1
          rw [← HTX.out, show j = i - 1 by rw [HJ.out]; rfl, ctG_next HNX.out] at h
          exact h
        have HHe : Hid (ShS E w u4 x fs0 (ctG i (i + 1) (litT a)) k) := by
          have h := HHd.out
          rw [← HIP.out] at h
          exact h
        clear g4 HHc
        go_wp2_with fail
        exact ⟨⟨rfl, i + 1, rfl, ⟨Nat.le_add_left _ _, HII.out⟩, HHe⟩, meas (Int.lt_succ _) (Int.le_trans (Int.add_le_add_right (Int.ofNat_le.2 (Nat.le_of_lt HI8.out)) 1) (by decide))⟩
      · have HTX : Hid (ctT p j = tAd j) := by unfold Hid ctT; rw [if_neg (fun h => hip (by rw [HJ.out]; exact h))]
        obtain ⟨x1, x2⟩ := eq_c hip
        clear hip
        go_wp2_with fail
        refine (name_w HJ8.out _).mono ?_
        rintro e u1 ⟨rfl, e1⟩
        have HHa : Hid (ShS E w u1 x fs0 (ctG p i (litT a)) k) := HH.out.below e1
        clear e1 HH
        go_wp2_with fail
        have HHb : Hid (ShS E w u1 x fs0 (ctG p i (litT a)) k) := HHa
        clear HHa
        refine (name_w HI8.out _).mono ?_
        rintro e u3 ⟨rfl, e3⟩
        have HHc : Hid (ShS E w u3 x fs0 (ctG p i (litT a)) k) := HHb.out.below e3
        clear e3 HHb
        go_wp2_with fail
        refine (set_s hA HHc (t := tAd j) (txt_ad HJ7.out) (c := 6 * i) (nA_cell HI8.out)).mono ?_
        rintro e u4 ⟨rfl, g4⟩
        have HHd : Hid (ShS E w u4 x fs0 (ctG p (i + 1) (litT a)) k) := by
          have h := g4.out.1
          rw [← HTX.out, show j = i - 1 by rw [HJ.out]; rfl, ctG_next HNX.out] at h
          exact h
        clear g4 HHc
        go_wp2_with fail
        exact ⟨⟨rfl, i + 1, rfl, ⟨Nat.le_add_left _ _, HII.out⟩, HHd⟩, meas (Int.lt_succ _) (Int.le_trans (Int.add_le_add_right (Int.ofNat_le.2 (Nat.le_of_lt HI8.out)) 1) (by decide))⟩
    · have hge := ge_c hi
      have HF : Hid (ShS E w wr x fs0 (ctG p n (litT a)) k) := by
        have h := HH.out
        rw [show i = n from Nat.le_antisymm HI.out.2 (Nat.le_of_not_lt hi)] at h
        exact h
      clear hi HI HH
      go_wp2_with fail
      refine (work_s HE hA HF o y HO3 HY3).mono ?_
      rintro e v1 ⟨ao1, cp1, k1, bg1, rfl, g1⟩
      have H5 : Hid (ShS E w v1 x (ctG p n (litT a)) (ctG p n (litT a)) k1) := g1.out.1
      clear g1 HF
      go_wp2_with fail
      obtain ⟨O1, hO1⟩ : ∃ O, Obj.cells #[.slice ao1 bg1.length cp1] 72 = O := ⟨_, rfl⟩
      rw [hO1]
      have H6 : Hid (ShS E w (v1.alloc O1) x (ctG p n (litT a)) (ctG p n (litT a)) k1) := H5.out.below (bel_alloc v1 O1)
      clear hO1 H5
      generalize v1.alloc O1 = v2 at *
      refine (lit_w b (sm_i HSB.out) _ (hA.out.below H6.out.bel)).mono ?_
      rintro e v3 ⟨rfl, g3⟩
      have H7 : Hid (ShS E w v3 x (ctG p n (litT a)) (ctG p n (litT a)) k1) := H6.out.below g3
      clear g3 H6
      go_wp2_with fail
      refine (set_s hA H7 (t := litT b) (txt_lit b HSB.out.big) (c := 0) (by unfold Hid; decide)).mono ?_
      rintro e v4 ⟨rfl, g4⟩
      have H8 : Hid (ShS E w v4 x (ctG p n (litT a)) (ctG p n (litT b)) k1) := by have h := g4.out.1; rw [ctG_num] at h; exact h
      clear g4 H7
      go_wp2_with fail
      refine (work_s HE hA H8 o y HO3 HY3).mono ?_
      rintro e v5 ⟨ao, cp, k2, bg, rfl, g5⟩
      have H9 : Hid (ShS E w v5 x (ctG p n (litT b)) (ctG p n (litT b)) k2) := g5.out.1
      have HHS : Hid (∀ i, i < n → p < i → y ≠ 0 → hasB bg (nA i) = false) := ct_has HE.out HSA.out HSB.out HP.out.1 (Nat.le_succ_of_le HN7.out) H8.out.kinv HO3.out g5.out.2.1
      have HSL : Hid (Slc v5 9 1 (.slice ao bg.length cp) bg.length (bg.map nmV)) := g5.out.2.2
      clear g5 H8
      go_wp2_with fail
      obtain ⟨O, hO⟩ : ∃ O, Obj.cells #[.slice ao bg.length cp] 72 = O := ⟨_, rfl⟩
      rw [hO]
      have H10 : Hid (ShS E w (v5.alloc O) x (ctG p n (litT b)) (ctG p n (litT b)) k2) := H9.out.below (bel_alloc v5 O)
      have HC0 : Hid ((v5.alloc O).cell? ⟨v5.heap.size, 0, none⟩ = some (.slice ao bg.length cp)) := by rw [← hO]; unfold Hid; simp
      have HL0 : Hid (Slc (v5.alloc O) 9 1 (.slice ao bg.length cp) bg.length (bg.map nmV)) := HSL.out.bel (bel_alloc v5 O)
      have HLT : Hid (v5.heap.size < (v5.alloc O).heap.size) := by unfold Hid; simp
      clear hO H9 HSL
      generalize v5.alloc O = v6 at *
      generalize v5.heap.size = bk at *
      go_loopw [24] (fun u wr => ∃ j : Nat, u = .int .i64 j ∧ Hid (j ≤ n) ∧ Hid (ShS E w wr x (ctG p n (litT b)) (ctG p n (litT b)) k2) ∧ wr.cell? ⟨bk, 0, none⟩ = some (.slice ao bg.length cp) ∧ Hid (Slc wr 9 1 (.slice ao bg.length cp) bg.length (bg.map nmV)) ∧ Hid (bk < wr.heap.size)) (fun u _ => (100 - intOf u).toNat)
      case atStart => exact ⟨0, rfl, Nat.zero_le _, H10, HC0.out, HL0, HLT⟩
      case round =>
        obtain ⟨j, rfl, HJ, HR, hcell, HL, HLW⟩ := hrel
        clear H10 HC0 HL0 HLT
        by_cases hj : j < n
        · have HJJ : Hid (j < n) := hj
          have HJ8 : Hid (j < 8) := Nat.lt_of_lt_of_le hj (Nat.le_succ_of_le HN7.out)
          have hjj := lt_c hj
          obtain ⟨j1, j2, j3, j4, j5, j6⟩ := num7 HJ8.out
          have HV : Hid ((k2.last (6 * j)).v = vI (ctV p b j)) := ct_vals HE.out HSB.out HP.out.1 (Nat.le_succ_of_le HN7.out) HR.out.kinv.v j hj
          clear hj HJ
          by_cases hpj : p ≤ j
          · have HV5 : Hid ((k2.last (6 * j)).v = vI 5) := by have h := HV.out; unfold ctV at h; rw [if_pos hpj] at h; exact h
            clear HV
            have HV := HV5
            clear HV5
            have g0 := le_c hpj
            by_cases hpe : p < j
            · have g1 := lt_c hpe
              by_cases hy0 : y = 0
              · have HY0 : Hid (y = 0) := hy0
                clear hpj hpe hy0
                go_wp2_with fail
                refine (name_w HJ8.out _).mono ?_
                rintro e u1 ⟨rfl, e1⟩
                have HRa : Hid (ShS E w u1 x (ctG p n (litT b)) (ctG p n (litT b)) k2) := HR.out.below e1
                have HCa : Hid (u1.cell? ⟨bk, 0, none⟩ = some (.slice ao bg.length cp)) := by unfold Hid; rw [e1.cell (p := ⟨bk, 0, none⟩) HLW.out]; exact hcell
                have HLa : Hid (Slc u1 9 1 (.slice ao bg.length cp) bg.length (bg.map nmV)) := HL.out.bel e1
                have HWa : Hid (bk < u1.heap.size) := Nat.lt_of_lt_of_le HLW.out e1.size
                clear e1 HR hcell HL HLW
                go_wp2_with fail
                refine (is_s HRa (c := 6 * j) (nA_cell HJ8.out) 5).mono ?_
                rintro e u2 ⟨rfl, g2⟩
                rw [HV.out, eqB_self]
                have HRb : Hid (ShS E w u2 x (ctG p n (litT b)) (ctG p n (litT b)) k2) := g2.out.1
                have hcb : u2.cell? ⟨bk, 0, none⟩ = some (.slice ao bg.length cp) := by rw [g2.out.2.cell (p := ⟨bk, 0, none⟩) HWa.out]; exact HCa.out
                have HLb : Hid (Slc u2 9 1 (.slice ao bg.length cp) bg.length (bg.map nmV)) := HLa.out.bel g2.out.2
                have HWb : Hid (bk < u2.heap.size) := Nat.lt_of_lt_of_le HWa.out g2.out.2.size
                clear g2 HRa HCa HLa HWa
                go_wp2_with fail
                refine wp_region_held (S := fun _ : World => True) (by kernel_rfl) ?_
                refine wpAnyH_take (i := 0) (v := .bool true) rfl (by kernel_rfl) (by kernel_rfl) (by kernel_rfl) (fun _ _ _ h => h) (Or.inl ⟨by rfl, fun w hSw => by go_simp⟩) trivial ?_
                (try simp only [Act.put, List.setIfInBounds_toArray, List.set_cons_zero, List.set_cons_succ, List.getElem_toArray, List.getElem_cons_zero, List.getElem_cons_succ])
                refine wpAnyH_take (i := 1) (v := .bool false) rfl (by kernel_rfl) (by kernel_rfl) (by kernel_rfl) (fun _ _ _ h => h) (Or.inl ⟨by rfl, fun w hSw => by go_simp⟩) trivial ?_
                (try simp only [Act.put, List.setIfInBounds_toArray, List.set_cons_zero, List.set_cons_succ, List.getElem_toArray, List.getElem_cons_zero, List.getElem_cons_succ])
                refine wpAnyH_take (i := 2) (v := .bool false) rfl (by kernel_rfl) (by kernel_rfl) (by kernel_rfl) (fun _ _ _ h => h) (Or.inl ⟨by rfl, fun w hSw => by go_simp⟩) trivial ?_
                (try simp only [Act.put, List.setIfInBounds_toArray, List.set_cons_zero, List.set_cons_succ, List.getElem_toArray, List.getElem_cons_zero, List.getElem_cons_succ])
                refine wpAnyH_take (i := 3) (v := .int .i64 j) rfl (by kernel_rfl) (by kernel_rfl) (by kernel_rfl) (fun _ _ _ h => h) (Or.inl ⟨by rfl, fun w hSw => by go_simp⟩) trivial ?_
                (try simp only [Act.put, List.setIfInBounds_toArray, List.set_cons_zero, List.set_cons_succ, List.getElem_toArray, List.getElem_cons_zero, List.getElem_cons_succ])
                refine wpAnyH_take (i := 4) (v := .int .i64 p) rfl (by kernel_rfl) (by kernel_rfl) (by kernel_rfl) (fun _ _ _ h => h) (Or.inl ⟨by rfl, fun w hSw => by go_simp⟩) trivial ?_
                (try simp only [Act.put, List.setIfInBounds_toArray, List.set_cons_zero, List.set_cons_succ, List.getElem_toArray, List.getElem_cons_zero, List.getElem_cons_succ])
                refine wpAnyH_take (i := 5) (v := .bool true) rfl (by kernel_rfl) (by kernel_rfl) (by kernel_rfl) (fun _ _ _ h => h) (Or.inl ⟨by rfl, fun w hSw => by go_simp⟩) trivial ?_
                (try simp only [Act.put, List.setIfInBounds_toArray, List.set_cons_zero, List.set_cons_succ, List.getElem_toArray, List.getElem_cons_zero, List.getElem_cons_succ])
                refine wpAnyH_take (i := 6) (v := .bool true) rfl (by kernel_rfl) (by kernel_rfl) (by kernel_rfl) (fun _ _ _ h => h) (Or.inl ⟨by rfl, fun w hSw => by go_simp⟩) trivial ?_
                (try simp only [Act.put, List.setIfInBounds_toArray, List.set_cons_zero, List.set_cons_succ, List.getElem_toArray, List.getElem_cons_zero, List.getElem_cons_succ])
                refine wpAnyH_take (i := 7) (v := .int .i64 y) rfl (by kernel_rfl) (by kernel_rfl) (by kernel_rfl) (fun _ _ _ h => h) (Or.inl ⟨by rfl, fun w hSw => by go_simp⟩) trivial ?_
                (try simp only [Act.put, List.setIfInBounds_toArray, List.set_cons_zero, List.set_cons_succ, List.getElem_toArray, List.getElem_cons_zero, List.getElem_cons_succ])
                refine wpAnyH_take (i := 8) (v := .bool false) rfl (by kernel_rfl) (by kernel_rfl) (by kernel_rfl) (fun _ _ _ h => h) (Or.inl ⟨by rfl, fun w hSw => by have h0 : y = 0 := HY0.out; go_simp⟩) trivial ?_
                (try simp only [Act.put, List.setIfInBounds_toArray, List.set_cons_zero, List.set_cons_succ, List.getElem_toArray, List.getElem_cons_zero, List.getElem_cons_succ])
                refine wpAnyH_take (i := 9) (v := .bool false) rfl (by kernel_rfl) (by kernel_rfl) (by kernel_rfl) (fun _ _ _ h => h) (Or.inl ⟨by rfl, fun w hSw => by go_simp⟩) trivial ?_
                (try simp only [Act.put, List.setIfInBounds_toArray, List.set_cons_zero, List.set_cons_succ, List.getElem_toArray, List.getElem_cons_zero, List.getElem_cons_succ])
                refine wpAnyH_take (i := 10) (v := .bool false) rfl (by kernel_rfl) (by kernel_rfl) (by kernel_rfl) (fun _ _ _ h => h) (Or.inl ⟨by rfl, fun w hSw => by go_simp⟩) trivial ?_
                (try simp only [Act.put, List.setIfInBounds_toArray, List.set_cons_zero, List.set_cons_succ, List.getElem_toArray, List.getElem_cons_zero, List.getElem_cons_succ])
                refine wpAnyH_take (i := 11) (v := undef) rfl (by kernel_rfl) (by kernel_rfl) (by kernel_rfl) (fun _ _ _ h => h) (Or.inr ⟨by rfl, rfl⟩) trivial ?_
                (try simp only [Act.put, List.setIfInBounds_toArray, List.set_cons_zero, List.set_cons_succ, List.getElem_toArray, List.getElem_cons_zero, List.getElem_cons_succ])
                refine wpAnyH_take (i := 12) (v := undef) rfl (by kernel_rfl) (by kernel_rfl) (by kernel_rfl) (fun _ _ _ h => h) (Or.inr ⟨by rfl, rfl⟩) trivial ?_
                (try simp only [Act.put, List.setIfInBounds_toArray, List.set_cons_zero, List.set_cons_succ, List.getElem_toArray, List.getElem_cons_zero, List.getElem_cons_succ])
                refine wpAnyH_take (i := 13) (v := undef) rfl (by kernel_rfl) (by kernel_rfl) (by kernel_rfl) (fun _ _ _ h => h) (Or.inr ⟨by rfl, rfl⟩) trivial ?_
                (try simp only [Act.put, List.setIfInBounds_toArray, List.set_cons_zero, List.set_cons_succ, List.getElem_toArray, List.getElem_cons_zero, List.getElem_cons_succ])
                refine wpAnyH_take (i := 14) (v := undef) rfl (by kernel_rfl) (by kernel_rfl) (by kernel_rfl) (fun _ _ _ h => h) (Or.inr ⟨by rfl, rfl⟩) trivial ?_
                (try simp only [Act.put, List.setIfInBounds_toArray, List.set_cons_zero, List.set_cons_succ, List.getElem_toArray, List.getElem_cons_zero, List.getElem_cons_succ])
                refine wpAnyH_ready (rs := [15]) (by kernel_rfl) (by simp) ?_
                refine AllReadyH.cons rfl (fun K hK => ?_) AllReadyH.nil
                go_simp
                refine hK.out _ _ trivial (fun _ => ?_)
                clear hK K
                (try simp only [Act.put, List.setIfInBounds_toArray, List.set_cons_zero, List.set_cons_succ, List.getElem_toArray, List.getElem_cons_zero, List.getElem_cons_succ])
                refine wpAnyH_ready (rs := [16]) (by kernel_rfl) (by simp) ?_
                refine AllReadyH.cons rfl (fun K hK => ?_) AllReadyH.nil
                go_simp
                refine hK.out _ _ trivial (fun _ => ?_)
                clear hK K
                (try simp only [Act.put, List.setIfInBounds_toArray, List.set_cons_zero, List.set_cons_succ, List.getElem_toArray, List.getElem_cons_zero, List.getElem_cons_succ])
                refine wpAnyH_take (i := 17) (v := .bool false) rfl (by kernel_rfl) (by kernel_rfl) (by kernel_rfl) (fun _ _ _ h => h) (Or.inl ⟨by rfl, fun w hSw => by go_simp⟩) trivial ?_
                (try simp only [Act.put, List.setIfInBounds_toArray, List.set_cons_zero, List.set_cons_succ, List.getElem_toArray, List.getElem_cons_zero, List.getElem_cons_succ])
                refine wpAnyH_take (i := 18) (v := .bool false) rfl (by kernel_rfl) (by kernel_rfl) (by kernel_rfl) (fun _ _ _ h => h) (Or.inl ⟨by rfl, fun w hSw => by go_simp⟩) trivial ?_
                (try simp only [Act.put, List.setIfInBounds_toArray, List.set_cons_zero, List.set_cons_succ, List.getElem_toArray, List.getElem_cons_zero, List.getElem_cons_succ])
                refine wpAnyH_done (by kernel_rfl) ?_ _
                have HBD : Hid (Below u2.heap.size u2 { u2 with drawn := u2.drawn + 1 }) := (Below.refl _ _).drew
                go_wp2_with fail
                exact ⟨⟨j + 1, rfl, HJJ.out, HRb.out.below HBD.out, hcb, HLb.out.bel HBD.out, HWb⟩, meas (Int.lt_succ _) (Int.le_trans (Int.add_le_add_right (Int.ofNat_le.2 (Nat.le_of_lt HJ8.out)) 1) (by decide))⟩
              · obtain ⟨z1, z2⟩ := nz_c hy0
                have z3 : ¬ y = 0 := hy0
                have HHB : Hid (hasB bg (nA j) = false) := HHS.out j HJJ.out hpe hy0
                clear hpj hpe hy0
                go_wp2_with fail
                refine (name_w HJ8.out _).mono ?_
                rintro e u1 ⟨rfl, e1⟩
                have HRa : Hid (ShS E w u1 x (ctG p n (litT b)) (ctG p n (litT b)) k2) := HR.out.below e1
                have HCa : Hid (u1.cell? ⟨bk, 0, none⟩ = some (.slice ao bg.length cp)) := by unfold Hid; rw [e1.cell (p := ⟨bk, 0, none⟩) HLW.out]; exact hcell
                have HLa : Hid (Slc u1 9 1 (.slice ao bg.length cp) bg.length (bg.map nmV)) := HL.out.bel e1
                have HWa : Hid (bk < u1.heap.size) := Nat.lt_of_lt_of_le HLW.out e1.size
                clear e1 HR hcell HL HLW
                go_wp2_with fail
                refine (is_s HRa (c := 6 * j) (nA_cell HJ8.out) 5).mono ?_
                rintro e u2 ⟨rfl, g2⟩
                rw [HV.out, eqB_self]
                have HRb : Hid (ShS E w u2 x (ctG p n (litT b)) (ctG p n (litT b)) k2) := g2.out.1
                have hcb : u2.cell? ⟨bk, 0, none⟩ = some (.slice ao bg.length cp) := by rw [g2.out.2.cell (p := ⟨bk, 0, none⟩) HWa.out]; exact HCa.out
                have HLb : Hid (Slc u2 9 1 (.slice ao bg.length cp) bg.length (bg.map nmV)) := HLa.out.bel g2.out.2
                have HWb : Hid (bk < u2.heap.size) := Nat.lt_of_lt_of_le HWa.out g2.out.2.size
                clear g2 HRa HCa HLa HWa
                go_wp2_with fail
                have hS0 : (fun w' : World => w'.cell? ⟨bk, 0, none⟩ = some (.slice ao bg.length cp)) { u2 with drawn := u2.drawn + 1 } := hcb
                refine wp_region_held (S := (fun w' : World => w'.cell? ⟨bk, 0, none⟩ = some (.slice ao bg.length cp))) (by kernel_rfl) ?_
                refine wpAnyH_take (i := 0) (v := .bool true) rfl (by kernel_rfl) (by kernel_rfl) (by kernel_rfl) (fun _ _ _ h => h) (Or.inl ⟨by rfl, fun w hSw => by go_simp⟩) hS0 ?_
                (try simp only [Act.put, List.setIfInBounds_toArray, List.set_cons_zero, List.set_cons_succ, List.getElem_toArray, List.getElem_cons_zero, List.getElem_cons_succ])
                refine wpAnyH_take (i := 1) (v := .bool false) rfl (by kernel_rfl) (by kernel_rfl) (by kernel_rfl) (fun _ _ _ h => h) (Or.inl ⟨by rfl, fun w hSw => by go_simp⟩) hS0 ?_
                (try simp only [Act.put, List.setIfInBounds_toArray, List.set_cons_zero, List.set_cons_succ, List.getElem_toArray, List.getElem_cons_zero, List.getElem_cons_succ])
                refine wpAnyH_take (i := 2) (v := .bool false) rfl (by kernel_rfl) (by kernel_rfl) (by kernel_rfl) (fun _ _ _ h => h) (Or.inl ⟨by rfl, fun w hSw => by go_simp⟩) hS0 ?_
                (try simp only [Act.put, List.setIfInBounds_toArray, List.set_cons_zero, List.set_cons_succ, List.getElem_toArray, List.getElem_cons_zero, List.getElem_cons_succ])
                refine wpAnyH_take (i := 3) (v := .int .i64 j) rfl (by kernel_rfl) (by kernel_rfl) (by kernel_rfl) (fun _ _ _ h => h) (Or.inl ⟨by rfl, fun w hSw => by go_simp⟩) hS0 ?_
                (try simp only [Act.put, List.setIfInBounds_toArray, List.set_cons_zero, List.set_cons_succ, List.getElem_toArray, List.getElem_cons_zero, List.getElem_cons_succ])
                refine wpAnyH_take (i := 4) (v := .int .i64 p) rfl (by kernel_rfl) (by kernel_rfl) (by kernel_rfl) (fun _ _ _ h => h) (Or.inl ⟨by rfl, fun w hSw => by go_simp⟩) hS0 ?_
                (try simp only [Act.put, List.setIfInBounds_toArray, List.set_cons_zero, List.set_cons_succ, List.getElem_toArray, List.getElem_cons_zero, List.getElem_cons_succ])
                refine wpAnyH_take (i := 5) (v := .bool true) rfl (by kernel_rfl) (by kernel_rfl) (by kernel_rfl) (fun _ _ _ h => h) (Or.inl ⟨by rfl, fun w hSw => by go_simp⟩) hS0 ?_
                (try simp only [Act.put, List.setIfInBounds_toArray, List.set_cons_zero, List.set_cons_succ, List.getElem_toArray, List.getElem_cons_zero, List.getElem_cons_succ])
                refine wpAnyH_take (i := 6) (v := .bool true) rfl (by kernel_rfl) (by kernel_rfl) (by kernel_rfl) (fun _ _ _ h => h) (Or.inl ⟨by rfl, fun w hSw => by go_simp⟩) hS0 ?_
                (try simp only [Act.put, List.setIfInBounds_toArray, List.set_cons_zero, List.set_cons_succ, List.getElem_toArray, List.getElem_cons_zero, List.getElem_cons_succ])
                refine wpAnyH_take (i := 7) (v := .int .i64 y) rfl (by kernel_rfl) (by kernel_rfl) (by kernel_rfl) (fun _ _ _ h => h) (Or.inl ⟨by rfl, fun w hSw => by go_simp⟩) hS0 ?_
                (try simp only [Act.put, List.setIfInBounds_toArray, List.set_cons_zero, List.set_cons_succ, List.getElem_toArray, List.getElem_cons_zero, List.getElem_cons_succ])
                refine wpAnyH_take (i := 8) (v := .bool true) rfl (by kernel_rfl) (by kernel_rfl) (by kernel_rfl) (fun _ _ _ h => h) (Or.inl ⟨by rfl, fun w hSw => by go_simp⟩) hS0 ?_
                (try simp only [Act.put, List.setIfInBounds_toArray, List.set_cons_zero, List.set_cons_succ, List.getElem_toArray, List.getElem_cons_zero, List.getElem_cons_succ])
                refine wpAnyH_take (i := 9) (v := .bool true) rfl (by kernel_rfl) (by kernel_rfl) (by kernel_rfl) (fun _ _ _ h => h) (Or.inl ⟨by rfl, fun w hSw => by go_simp⟩) hS0 ?_
                (try simp only [Act.put, List.setIfInBounds_toArray, List.set_cons_zero, List.set_cons_succ, List.getElem_toArray, List.getElem_cons_zero, List.getElem_cons_succ])
                refine wpAnyH_take (i := 10) (v := .bool true) rfl (by kernel_rfl) (by kernel_rfl) (by kernel_rfl) (fun _ _ _ h => h) (Or.inl ⟨by rfl, fun w hSw => by go_simp⟩) hS0 ?_
                (try simp only [Act.put, List.setIfInBounds_toArray, List.set_cons_zero, List.set_cons_succ, List.getElem_toArray, List.getElem_cons_zero, List.getElem_cons_succ])
                refine wpAnyH_take (i := 11) (v := .pointer (some ⟨bk, 0, none⟩)) rfl (by kernel_rfl) (by kernel_rfl) (by kernel_rfl) (fun _ _ _ h => h) (Or.inl ⟨by rfl, fun w hSw => by go_simp⟩) hS0 ?_
                (try simp only [Act.put, List.setIfInBounds_toArray, List.set_cons_zero, List.set_cons_succ, List.getElem_toArray, List.getElem_cons_zero, List.getElem_cons_succ])
                refine wpAnyH_take (i := 12) (v := .slice ao bg.length cp) rfl (by kernel_rfl) (by kernel_rfl) (by kernel_rfl) (fun _ _ _ h => h) (Or.inl ⟨by rfl, fun w hSw => by go_simp⟩) hS0 ?_
                (try simp only [Act.put, List.setIfInBounds_toArray, List.set_cons_zero, List.set_cons_succ, List.getElem_toArray, List.getElem_cons_zero, List.getElem_cons_succ])
                refine wpAnyH_take (i := 13) (v := .int .i64 j) rfl (by kernel_rfl) (by kernel_rfl) (by kernel_rfl) (fun _ _ _ h => h) (Or.inl ⟨by rfl, fun w hSw => by go_simp⟩) hS0 ?_
                (try simp only [Act.put, List.setIfInBounds_toArray, List.set_cons_zero, List.set_cons_succ, List.getElem_toArray, List.getElem_cons_zero, List.getElem_cons_succ])
                refine wpAnyH_take (i := 14) (v := .int .i64 (6 * (j : Int))) rfl (by kernel_rfl) (by kernel_rfl) (by kernel_rfl) (fun _ _ _ h => h) (Or.inl ⟨by rfl, fun w hSw => by go_simp⟩) hS0 ?_
                (try simp only [Act.put, List.setIfInBounds_toArray, List.set_cons_zero, List.set_cons_succ, List.getElem_toArray, List.getElem_cons_zero, List.getElem_cons_succ])
                refine wpAnyH_ready (rs := [15]) (by kernel_rfl) (by simp) ?_
                refine AllReadyH.cons rfl (fun K hK => ?_) AllReadyH.nil
                go_simp
                refine (name_w HJ8.out _).mono ?_
                rintro e z1 ⟨rfl, e1⟩
                have dd : Below u2.heap.size u2 z1 := ((Below.refl _ _).drew).trans e1
                have HRc : Hid (ShS E w z1 x (ctG p n (litT b)) (ctG p n (litT b)) k2) := HRb.out.below dd
                have hcc : z1.cell? ⟨bk, 0, none⟩ = some (.slice ao bg.length cp) := by rw [dd.cell (p := ⟨bk, 0, none⟩) HWb.out]; exact hcb
                have HLc : Hid (Slc z1 9 1 (.slice ao bg.length cp) bg.length (bg.map nmV)) := HLb.out.bel dd
                have HWc : Hid (bk < z1.heap.size) := Nat.lt_of_lt_of_le HWb.out dd.size
                clear dd e1 HRb HLb HWb hS0
                refine hK.out _ _ hcc (fun _ => ?_)
                clear hK K
                (try simp only [Act.put, List.setIfInBounds_toArray, List.set_cons_zero, List.set_cons_succ, List.getElem_toArray, List.getElem_cons_zero, List.getElem_cons_succ])
                refine wpAnyH_ready (rs := [16]) (by kernel_rfl) (by simp) ?_
                refine AllReadyH.cons rfl (fun K hK => ?_) AllReadyH.nil
                go_simp
                refine (has_w _ _ bg (nA j) HLc).mono ?_
                rintro e z2 ⟨rfl, hz⟩
                rw [hz, HHB.out]
                clear hz z2
                refine hK.out _ _ hcc (fun _ => ?_)
                clear hK K
                (try simp only [Act.put, List.setIfInBounds_toArray, List.set_cons_zero, List.set_cons_succ, List.getElem_toArray, List.getElem_cons_zero, List.getElem_cons_succ])
                refine wpAnyH_take (i := 17) (v := .bool false) rfl (by kernel_rfl) (by kernel_rfl) (by kernel_rfl) (fun _ _ _ h => h) (Or.inl ⟨by rfl, fun w hSw => by go_simp⟩) hcc ?_
                (try simp only [Act.put, List.setIfInBounds_toArray, List.set_cons_zero, List.set_cons_succ, List.getElem_toArray, List.getElem_cons_zero, List.getElem_cons_succ])
                refine wpAnyH_take (i := 18) (v := .bool false) rfl (by kernel_rfl) (by kernel_rfl) (by kernel_rfl) (fun _ _ _ h => h) (Or.inl ⟨by rfl, fun w hSw => by go_simp⟩) hcc ?_
                (try simp only [Act.put, List.setIfInBounds_toArray, List.set_cons_zero, List.set_cons_succ, List.getElem_toArray, List.getElem_cons_zero, List.getElem_cons_succ])
                refine wpAnyH_done (by kernel_rfl) ?_ _
                go_wp2_with fail
                exact ⟨⟨j + 1, rfl, HJJ.out, HRc, hcc, HLc, HWc⟩, meas (Int.lt_succ _) (Int.le_trans (Int.add_le_add_right (Int.ofNat_le.2 (Nat.le_of_lt HJ8.out)) 1) (by decide))⟩
            · have g1 := ge_c hpe
              have g2 : j ≤ p := Nat.le_of_not_lt hpe
              clear hpj hpe
              go_wp2_with fail
              refine (name_w HJ8.out _).mono ?_
              rintro e u1 ⟨rfl, e1⟩
              have HRa : Hid (ShS E w u1 x (ctG p n (litT b)) (ctG p n (litT b)) k2) := HR.out.below e1
              have HCa : Hid (u1.cell? ⟨bk, 0, none⟩ = some (.slice ao bg.length cp)) := by unfold Hid; rw [e1.cell (p := ⟨bk, 0, none⟩) HLW.out]; exact hcell
              have HLa : Hid (Slc u1 9 1 (.slice ao bg.length cp) bg.length (bg.map nmV)) := HL.out.bel e1
              have HWa : Hid (bk < u1.heap.size) := Nat.lt_of_lt_of_le HLW.out e1.size
              clear e1 HR hcell HL HLW
              go_wp2_with fail
              refine (is_s HRa (c := 6 * j) (nA_cell HJ8.out) 5).mono ?_
              rintro e u2 ⟨rfl, g2⟩
              rw [HV.out, eqB_self]
              have HRb : Hid (ShS E w u2 x (ctG p n (litT b)) (ctG p n (litT b)) k2) := g2.out.1
              have hcb : u2.cell? ⟨bk, 0, none⟩ = some (.slice ao bg.length cp) := by rw [g2.out.2.cell (p := ⟨bk, 0, none⟩) HWa.out]; exact HCa.out
              have HLb : Hid (Slc u2 9 1 (.slice ao bg.length cp) bg.length (bg.map nmV)) := HLa.out.bel g2.out.2
              have HWb : Hid (bk < u2.heap.size) := Nat.lt_of_lt_of_le HWa.out g2.out.2.size
              clear g2 HRa HCa HLa HWa
              go_wp2_with fail
              refine wp_region_held (S := fun _ : World => True) (by kernel_rfl) ?_
              refine wpAnyH_take (i := 0) (v := .bool true) rfl (by kernel_rfl) (by kernel_rfl) (by kernel_rfl) (fun _ _ _ h => h) (Or.inl ⟨by rfl, fun w hSw => by go_simp⟩) trivial ?_
              (try simp only [Act.put, List.setIfInBounds_toArray, List.set_cons_zero, List.set_cons_succ, List.getElem_toArray, List.getElem_cons_zero, List.getElem_cons_succ])
              refine wpAnyH_take (i := 1) (v := .bool false) rfl (by kernel_rfl) (by kernel_rfl) (by kernel_rfl) (fun _ _ _ h => h) (Or.inl ⟨by rfl, fun w hSw => by go_simp⟩) trivial ?_
              (try simp only [Act.put, List.setIfInBounds_toArray, List.set_cons_zero, List.set_cons_succ, List.getElem_toArray, List.getElem_cons_zero, List.getElem_cons_succ])
              refine wpAnyH_take (i := 2) (v := .bool false) rfl (by kernel_rfl) (by kernel_rfl) (by kernel_rfl) (fun _ _ _ h => h) (Or.inl ⟨by rfl, fun w hSw => by go_simp⟩) trivial ?_
              (try simp only [Act.put, List.setIfInBounds_toArray, List.set_cons_zero, List.set_cons_succ, List.getElem_toArray, List.getElem_cons_zero, List.getElem_cons_succ])
              refine wpAnyH_take (i := 3) (v := .int .i64 j) rfl (by kernel_rfl) (by kernel_rfl) (by kernel_rfl) (fun _ _ _ h => h) (Or.inl ⟨by rfl, fun w hSw => by go_simp⟩) trivial ?_
              (try simp only [Act.put, List.setIfInBounds_toArray, List.set_cons_zero, List.set_cons_succ, List.getElem_toArray, List.getElem_cons_zero, List.getElem_cons_succ])
              refine wpAnyH_take (i := 4) (v := .int .i64 p) rfl (by kernel_rfl) (by kernel_rfl) (by kernel_rfl) (fun _ _ _ h => h) (Or.inl ⟨by rfl, fun w hSw => by go_simp⟩) trivial ?_
              (try simp only [Act.put, List.setIfInBounds_toArray, List.set_cons_zero, List.set_cons_succ, List.getElem_toArray, List.getElem_cons_zero, List.getElem_cons_succ])
              refine wpAnyH_take (i := 5) (v := .bool false) rfl (by kernel_rfl) (by kernel_rfl) (by kernel_rfl) (fun _ _ _ h => h) (Or.inl ⟨by rfl, fun w hSw => by go_simp⟩) trivial ?_
              (try simp only [Act.put, List.setIfInBounds_toArray, List.set_cons_zero, List.set_cons_succ, List.getElem_toArray, List.getElem_cons_zero, List.getElem_cons_succ])
              refine wpAnyH_take (i := 6) (v := .bool false) rfl (by kernel_rfl) (by kernel_rfl) (by kernel_rfl) (fun _ _ _ h => h) (Or.inl ⟨by rfl, fun w hSw => by go_simp⟩) trivial ?_
              (try simp only [Act.put, List.setIfInBounds_toArray, List.set_cons_zero, List.set_cons_succ, List.getElem_toArray, List.getElem_cons_zero, List.getElem_cons_succ])
              refine wpAnyH_take (i := 7) (v := undef) rfl (by kernel_rfl) (by kernel_rfl) (by kernel_rfl) (fun _ _ _ h => h) (Or.inr ⟨by rfl, rfl⟩) trivial ?_
              (try simp only [Act.put, List.setIfInBounds_toArray, List.set_cons_zero, List.set_cons_succ, List.getElem_toArray, List.getElem_cons_zero, List.getElem_cons_succ])
              refine wpAnyH_take (i := 8) (v := undef) rfl (by kernel_rfl) (by kernel_rfl) (by kernel_rfl) (fun _ _ _ h => h) (Or.inr ⟨by rfl, rfl⟩) trivial ?_
              (try simp only [Act.put, List.setIfInBounds_toArray, List.set_cons_zero, List.set_cons_succ, List.getElem_toArray, List.getElem_cons_zero, List.getElem_cons_succ])
              refine wpAnyH_take (i := 9) (v := .bool false) rfl (by kernel_rfl) (by kernel_rfl) (by kernel_rfl) (fun _ _ _ h => h) (Or.inl ⟨by rfl, fun w hSw => by go_simp⟩) trivial ?_
              (try simp only [Act.put, List.setIfInBounds_toArray, List.set_cons_zero, List.set_cons_succ, List.getElem_toArray, List.getElem_cons_zero, List.getElem_cons_succ])
              refine wpAnyH_take (i := 10) (v := .bool false) rfl (by kernel_rfl) (by kernel_rfl) (by kernel_rfl) (fun _ _ _ h => h) (Or.inl ⟨by rfl, fun w hSw => by go_simp⟩) trivial ?_
              (try simp only [Act.put, List.setIfInBounds_toArray, List.set_cons_zero, List.set_cons_succ, List.getElem_toArray, List.getElem_cons_zero, List.getElem_cons_succ])
              refine wpAnyH_take (i := 11) (v := undef) rfl (by kernel_rfl) (by kernel_rfl) (by kernel_rfl) (fun _ _ _ h => h) (Or.inr ⟨by rfl, rfl⟩) trivial ?_
              (try simp only [Act.put, List.setIfInBounds_toArray, List.set_cons_zero, List.set_cons_succ, List.getElem_toArray, List.getElem_cons_zero, List.getElem_cons_succ])
              refine wpAnyH_take (i := 12) (v := undef) rfl (by kernel_rfl) (by kernel_rfl) (by kernel_rfl) (fun _ _ _ h => h) (Or.inr ⟨by rfl, rfl⟩) trivial ?_
              (try simp only [Act.put, List.setIfInBounds_toArray, List.set_cons_zero, List.set_cons_succ, List.getElem_toArray, List.getElem_cons_zero, List.getElem_cons_succ])
              refine wpAnyH_take (i := 13) (v := undef) rfl (by kernel_rfl) (by kernel_rfl) (by kernel_rfl) (fun _ _ _ h => h) (Or.inr ⟨by rfl, rfl⟩) trivial ?_
              (try simp only [Act.put, List.setIfInBounds_toArray, List.set_cons_zero, List.set_cons_succ, List.getElem_toArray, List.getElem_cons_zero, List.getElem_cons_succ])
              refine wpAnyH_take (i := 14) (v := undef) rfl (by kernel_rfl) (by kernel_rfl) (by kernel_rfl) (fun _ _ _ h => h) (Or.inr ⟨by rfl, rfl⟩) trivial ?_
              (try simp only [Act.put, List.setIfInBounds_toArray, List.set_cons_zero, List.set_cons_succ, List.getElem_toArray, List.getElem_cons_zero, List.getElem_cons_succ])
              refine wpAnyH_ready (rs := [15]) (by kernel_rfl) (by simp) ?_
              refine AllReadyH.cons rfl (fun K hK => ?_) AllReadyH.nil
              go_simp
              refine hK.out _ _ trivial (fun _ => ?_)
              clear hK K
              (try simp only [Act.put, List.setIfInBounds_toArray, List.set_cons_zero, List.set_cons_succ, List.getElem_toArray, List.getElem_cons_zero, List.getElem_cons_succ])
              refine wpAnyH_ready (rs := [16]) (by kernel_rfl) (by simp) ?_
              refine AllReadyH.cons rfl (fun K hK => ?_) AllReadyH.nil
              go_simp
              refine hK.out _ _ trivial (fun _ => ?_)
              clear hK K
              (try simp only [Act.put, List.setIfInBounds_toArray, List.set_cons_zero, List.set_cons_succ, List.getElem_toArray, List.getElem_cons_zero, List.getElem_cons_succ])
              refine wpAnyH_take (i := 17) (v := .bool false) rfl (by kernel_rfl) (by kernel_rfl) (by kernel_rfl) (fun _ _ _ h => h) (Or.inl ⟨by rfl, fun w hSw => by go_simp⟩) trivial ?_
              (try simp only [Act.put, List.setIfInBounds_toArray, List.set_cons_zero, List.set_cons_succ, List.getElem_toArray, List.getElem_cons_zero, List.getElem_cons_succ])
              refine wpAnyH_take (i := 18) (v := .bool false) rfl (by kernel_rfl) (by kernel_rfl) (by kernel_rfl) (fun _ _ _ h => h) (Or.inl ⟨by rfl, fun w hSw => by go_simp⟩) trivial ?_
              (try simp only [Act.put, List.setIfInBounds_toArray, List.set_cons_zero, List.set_cons_succ, List.getElem_toArray, List.getElem_cons_zero, List.getElem_cons_succ])
              refine wpAnyH_done (by kernel_rfl) ?_ _
              have HBD : Hid (Below u2.heap.size u2 { u2 with drawn := u2.drawn + 1 }) := (Below.refl _ _).drew
              go_wp2_with fail
              exact ⟨⟨j + 1, rfl, HJJ.out, HRb.out.below HBD.out, hcb, HLb.out.bel HBD.out, HWb⟩, meas (Int.lt_succ _) (Int.le_trans (Int.add_le_add_right (Int.ofNat_le.2 (Nat.le_of_lt HJ8.out)) 1) (by decide))⟩
          · have HVb : Hid ((k2.last (6 * j)).v = vI b) := by have h := HV.out; unfold ctV at h; rw [if_neg hpj] at h; exact h
            clear HV
            have HV := HVb
            clear HVb
            have g0 := gt_c hpj
            have g1 : ¬ (p : Int) < (j : Int) := fun h => g0 (Int.le_of_lt h)
            have g2 : j ≤ p := Nat.le_of_lt (Nat.lt_of_not_le hpj)
            clear hpj
            go_wp2_with fail
            refine (name_w HJ8.out _).mono ?_
            rintro e u1 ⟨rfl, e1⟩
            have HRa : Hid (ShS E w u1 x (ctG p n (litT b)) (ctG p n (litT b)) k2) := HR.out.below e1
            have HCa : Hid (u1.cell? ⟨bk, 0, none⟩ = some (.slice ao bg.length cp)) := by unfold Hid; rw [e1.cell (p := ⟨bk, 0, none⟩) HLW.out]; exact hcell
            have HLa : Hid (Slc u1 9 1 (.slice ao bg.length cp) bg.length (bg.map nmV)) := HL.out.bel e1
            have HWa : Hid (bk < u1.heap.size) := Nat.lt_of_lt_of_le HLW.out e1.size
            clear e1 HR hcell HL HLW
            go_wp2_with fail
            refine (is_s HRa (c := 6 * j) (nA_cell HJ8.out) b).mono ?_
            rintro e u2 ⟨rfl, g2⟩
            rw [HV.out, eqB_self]
            have HRb : Hid (ShS E w u2 x (ctG p n (litT b)) (ctG p n (litT b)) k2) := g2.out.1
            have hcb : u2.cell? ⟨bk, 0, none⟩ = some (.slice ao bg.length cp) := by rw [g2.out.2.cell (p := ⟨bk, 0, none⟩) HWa.out]; exact HCa.out
            have HLb : Hid (Slc u2 9 1 (.slice ao bg.length cp) bg.length (bg.map nmV)) := HLa.out.bel g2.out.2
            have HWb : Hid (bk < u2.heap.size) := Nat.lt_of_lt_of_le HWa.out g2.out.2.size
            clear g2 HRa HCa HLa HWa
            go_wp2_with fail
            refine wp_region_held (S := fun _ : World => True) (by kernel_rfl) ?_
            refine wpAnyH_take (i := 0) (v := .bool true) rfl (by kernel_rfl) (by kernel_rfl) (by kernel_rfl) (fun _ _ _ h => h) (Or.inl ⟨by rfl, fun w hSw => by go_simp⟩) trivial ?_
            (try simp only [Act.put, List.setIfInBounds_toArray, List.set_cons_zero, List.set_cons_succ, List.getElem_toArray, List.getElem_cons_zero, List.getElem_cons_succ])
            refine wpAnyH_take (i := 1) (v := .bool false) rfl (by kernel_rfl) (by kernel_rfl) (by kernel_rfl) (fun _ _ _ h => h) (Or.inl ⟨by rfl, fun w hSw => by go_simp⟩) trivial ?_
            (try simp only [Act.put, List.setIfInBounds_toArray, List.set_cons_zero, List.set_cons_succ, List.getElem_toArray, List.getElem_cons_zero, List.getElem_cons_succ])
            refine wpAnyH_take (i := 2) (v := .bool false) rfl (by kernel_rfl) (by kernel_rfl) (by kernel_rfl) (fun _ _ _ h => h) (Or.inl ⟨by rfl, fun w hSw => by go_simp⟩) trivial ?_
            (try simp only [Act.put, List.setIfInBounds_toArray, List.set_cons_zero, List.set_cons_succ, List.getElem_toArray, List.getElem_cons_zero, List.getElem_cons_succ])
            refine wpAnyH_take (i := 3) (v := .int .i64 j) rfl (by kernel_rfl) (by kernel_rfl) (by kernel_rfl) (fun _ _ _ h => h) (Or.inl ⟨by rfl, fun w hSw => by go_simp⟩) trivial ?_
            (try simp only [Act.put, List.setIfInBounds_toArray, List.set_cons_zero, List.set_cons_succ, List.getElem_toArray, List.getElem_cons_zero, List.getElem_cons_succ])
            refine wpAnyH_take (i := 4) (v := .int .i64 p) rfl (by kernel_rfl) (by kernel_rfl) (by kernel_rfl) (fun _ _ _ h => h) (Or.inl ⟨by rfl, fun w hSw => by go_simp⟩) trivial ?_
            (try simp only [Act.put, List.setIfInBounds_toArray, List.set_cons_zero, List.set_cons_succ, List.getElem_toArray, List.getElem_cons_zero, List.getElem_cons_succ])
            refine wpAnyH_take (i := 5) (v := .bool false) rfl (by kernel_rfl) (by kernel_rfl) (by kernel_rfl) (fun _ _ _ h => h) (Or.inl ⟨by rfl, fun w hSw => by go_simp⟩) trivial ?_
            (try simp only [Act.put, List.setIfInBounds_toArray, List.set_cons_zero, List.set_cons_succ, List.getElem_toArray, List.getElem_cons_zero, List.getElem_cons_succ])
            refine wpAnyH_take (i := 6) (v := .bool false) rfl (by kernel_rfl) (by kernel_rfl) (by kernel_rfl) (fun _ _ _ h => h) (Or.inl ⟨by rfl, fun w hSw => by go_simp⟩) trivial ?_
            (try simp only [Act.put, List.setIfInBounds_toArray, List.set_cons_zero, List.set_cons_succ, List.getElem_toArray, List.getElem_cons_zero, List.getElem_cons_succ])
            refine wpAnyH_take (i := 7) (v := undef) rfl (by kernel_rfl) (by kernel_rfl) (by kernel_rfl) (fun _ _ _ h => h) (Or.inr ⟨by rfl, rfl⟩) trivial ?_
            (try simp only [Act.put, List.setIfInBounds_toArray, List.set_cons_zero, List.set_cons_succ, List.getElem_toArray, List.getElem_cons_zero, List.getElem_cons_succ])
            refine wpAnyH_take (i := 8) (v := undef) rfl (by kernel_rfl) (by kernel_rfl) (by kernel_rfl) (fun _ _ _ h => h) (Or.inr ⟨by rfl, rfl⟩) trivial ?_
            (try simp only [Act.put, List.setIfInBounds_toArray, List.set_cons_zero, List.set_cons_succ, List.getElem_toArray, List.getElem_cons_zero, List.getElem_cons_succ])
            refine wpAnyH_take (i := 9) (v := .bool false) rfl (by kernel_rfl) (by kernel_rfl) (by kernel_rfl) (fun _ _ _ h => h) (Or.inl ⟨by rfl, fun w hSw => by go_simp⟩) trivial ?_
            (try simp only [Act.put, List.setIfInBounds_toArray, List.set_cons_zero, List.set_cons_succ, List.getElem_toArray, List.getElem_cons_zero, List.getElem_cons_succ])
            refine wpAnyH_take (i := 10) (v := .bool false) rfl (by kernel_rfl) (by kernel_rfl) (by kernel_rfl) (fun _ _ _ h => h) (Or.inl ⟨by rfl, fun w hSw => by go_simp⟩) trivial ?_
            (try simp only [Act.put, List.setIfInBounds_toArray, List.set_cons_zero, List.set_cons_succ, List.getElem_toArray, List.getElem_cons_zero, List.getElem_cons_succ])
            refine wpAnyH_take (i := 11) (v := undef) rfl (by kernel_rfl) (by kernel_rfl) (by kernel_rfl) (fun _ _ _ h => h) (Or.inr ⟨by rfl, rfl⟩) trivial ?_
            (try simp only [Act.put, List.setIfInBounds_toArray, List.set_cons_zero, List.set_cons_succ, List.getElem_toArray, List.getElem_cons_zero, List.getElem_cons_succ])
            refine wpAnyH_take (i := 12) (v := undef) rfl (by kernel_rfl) (by kernel_rfl) (by kernel_rfl) (fun _ _ _ h => h) (Or.inr ⟨by rfl, rfl⟩) trivial ?_
            (try simp only [Act.put, List.setIfInBounds_toArray, List.set_cons_zero, List.set_cons_succ, List.getElem_toArray, List.getElem_cons_zero, List.getElem_cons_succ])
            refine wpAnyH_take (i := 13) (v := undef) rfl (by kernel_rfl) (by kernel_rfl) (by kernel_rfl) (fun _ _ _ h => h) (Or.inr ⟨by rfl, rfl⟩) trivial ?_
            (try simp only [Act.put, List.setIfInBounds_toArray, List.set_cons_zero, List.set_cons_succ, List.getElem_toArray, List.getElem_cons_zero, List.getElem_cons_succ])
            refine wpAnyH_take (i := 14) (v := undef) rfl (by kernel_rfl) (by kernel_rfl) (by kernel_rfl) (fun _ _ _ h => h) (Or.inr ⟨by rfl, rfl⟩) trivial ?_
            (try simp only [Act.put, List.setIfInBounds_toArray, List.set_cons_zero, List.set_cons_succ, List.getElem_toArray, List.getElem_cons_zero, List.getElem_cons_succ])
            refine wpAnyH_ready (rs := [15]) (by kernel_rfl) (by simp) ?_
            refine AllReadyH.cons rfl (fun K hK => ?_) AllReadyH.nil
            go_simp
            refine hK.out _ _ trivial (fun _ => ?_)
            clear hK K
            (try simp only [Act.put, List.setIfInBounds_toArray, List.set_cons_zero, List.set_cons_succ, List.getElem_toArray, List.getElem_cons_zero, List.getElem_cons_succ])
            refine wpAnyH_ready (rs := [16]) (by kernel_rfl) (by simp) ?_
            refine AllReadyH.cons rfl (fun K hK => ?_) AllReadyH.nil
            go_simp
            refine hK.out _ _ trivial (fun _ => ?_)
            clear hK K
            (try simp only [Act.put, List.setIfInBounds_toArray, List.set_cons_zero, List.set_cons_succ, List.getElem_toArray, List.getElem_cons_zero, List.getElem_cons_succ])
            refine wpAnyH_take (i := 17) (v := .bool false) rfl (by kernel_rfl) (by kernel_rfl) (by kernel_rfl) (fun _ _ _ h => h) (Or.inl ⟨by rfl, fun w hSw => by go_simp⟩) trivial ?_
            (try simp only [Act.put, List.setIfInBounds_toArray, List.set_cons_zero, List.set_cons_succ, List.getElem_toArray, List.getElem_cons_zero, List.getElem_cons_succ])
            refine wpAnyH_take (i := 18) (v := .bool false) rfl (by kernel_rfl) (by kernel_rfl) (by kernel_rfl) (fun _ _ _ h => h) (Or.inl ⟨by rfl, fun w hSw => by go_simp⟩) trivial ?_
            (try simp only [Act.put, List.setIfInBounds_toArray, List.set_cons_zero, List.set_cons_succ, List.getElem_toArray, List.getElem_cons_zero, List.getElem_cons_succ])
            refine wpAnyH_done (by kernel_rfl) ?_ _
            have HBD : Hid (Below u2.heap.size u2 { u2 with drawn := u2.drawn + 1 }) := (Below.refl _ _).drew
            go_wp2_with fail
            exact ⟨⟨j + 1, rfl, HJJ.out, HRb.out.below HBD.out, hcb, HLb.out.bel HBD.out, HWb⟩, meas (Int.lt_succ _) (Int.le_trans (Int.add_le_add_right (Int.ofNat_le.2 (Nat.le_of_lt HJ8.out)) 1) (by decide))⟩
        · have hge := ge_c hj
          clear hj HJ
          go_wp2_with fail
          go_ret
          exact ⟨rfl, HR.out.bel⟩
end Go.Proofs.YtiocnfambeochaaGreatDoor
