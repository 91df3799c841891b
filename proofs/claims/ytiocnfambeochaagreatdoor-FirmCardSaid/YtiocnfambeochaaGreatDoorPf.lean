/- The statement Firm, walked. -/
import Derived.Test.YtiocnfambeochaaGreatDoorQ49
set_option linter.unusedVariables false
set_option linter.unusedSimpArgs false
namespace Go.Proofs.YtiocnfambeochaaGreatDoor
open Go.RowKit
theorem ne_newF {W : World} {x y : Nat} (h : x < W.heap.size) (hy : W.heap.size ≤ y) : x ≠ y := by omega
theorem mk9 : ∀ w : World, (Instr.makeSlice 23 (.int .i64 9) (.int .i64 9)).run Tryz.prog w = .ok (.slice (some ⟨w.heap.size, 0, none⟩) 9 9) (w.alloc (.cells #[.string ⟨#[]⟩, .string ⟨#[]⟩, .string ⟨#[]⟩, .string ⟨#[]⟩, .string ⟨#[]⟩, .string ⟨#[]⟩, .string ⟨#[]⟩, .string ⟨#[]⟩, .string ⟨#[]⟩, .string ⟨#[]⟩, .string ⟨#[]⟩, .string ⟨#[]⟩, .string ⟨#[]⟩, .string ⟨#[]⟩, .string ⟨#[]⟩, .string ⟨#[]⟩, .string ⟨#[]⟩, .string ⟨#[]⟩] 68)) := fun _ => by kernel_rfl
theorem ShS.beside1 {E : Env} {w0 w w' : World} {x y : Nat} {fl fs flx fsx : Nat → ByteArray} {k kx : Kp} (hx : ShS E w0 w x flx fsx kx) (hy : ShS E w0 w y fl fs k) (ho : Only x w w') (hne : y ≠ x) : ShS E w0 w' y fl fs k := hy.other ho hx.xB hne hx.sr.notRead
set_option maxRecDepth 100000 in
set_option maxHeartbeats 16000000 in
theorem firm_w (vr : Value) (l : List ByteArray) (store how : Int) (hs : Hid (I64 store)) (hh : Hid (I64 how)) (w : World) (hr : Hid (RawS w vr l)) (hA : Hid (Amb w)) :
    Calls Tryz.prog 14 #[vr, .int .i64 store, .int .i64 how] w fun e w' => e = .returned (.bool true) ∧ Below w.heap.size w w' := by
  obtain ⟨E, hE⟩ := env_ex
  have HE : Hid (EnvOK E) := hE
  clear hE
  go_enter Tryz.func14, Tryz.ntmps14
  go_wp2_with fail
  refine (begin_s E store hs.out w w (Below.refl _ _)).mono ?_
  rintro e w1 ⟨x, rfl, g1⟩
  have X1 : Hid (ShS E w w1 x fs0 fs0 (k0 (pk store 65))) := g1.out.1
  clear g1
  go_wp2_with fail
  refine (begin_s E store hs.out w w1 X1.out.bel).mono ?_
  rintro e w2 ⟨y, rfl, g2⟩
  have X2 : Hid (ShS E w w2 x fs0 fs0 (k0 (pk store 65))) := X1.out.below g2.out.2.1
  have Y2 : Hid (ShS E w w2 y fs0 fs0 (k0 (pk store 65))) := g2.out.1
  have HNE : Hid (x ≠ y) := ne_newF X1.out.sr.lt g2.out.2.2
  clear g2 X1
  generalize k0 (pk store 65) = k at *
  go_wp2_with fail
  have HP3 : Hid (HowX (w2.alloc (.cells #[.int .i64 how] 3)) x (.slice (some ⟨w2.heap.size, 0, none⟩) 1 1) [how]) := HowX.one (rnew _ _ _) (Nat.ne_of_gt X2.out.sr.lt) hh.out
  have X3 : Hid (ShS E w (w2.alloc (.cells #[.int .i64 how] 3)) x fs0 fs0 k) := X2.out.below (bl1 _ _)
  have Y3 : Hid (ShS E w (w2.alloc (.cells #[.int .i64 how] 3)) y fs0 fs0 k) := Y2.out.below (bl1 _ _)
  clear X2 Y2
  generalize w2.alloc (.cells #[.int .i64 how] 3) = w3 at *
  refine (play_x HE hA X3 hr HP3).mono ?_
  rintro e w4 ⟨rfl, g4⟩
  obtain ⟨kx, g5, _, g6⟩ := g4.out
  have X4 : Hid (ShS E w w4 x (flN l [how] fs0 fs0 (min 20 l.length)) (plF (l.take 20) fs0) kx) := g5
  have Y4 : Hid (ShS E w w4 y fs0 fs0 k) := X3.out.beside1 Y3.out g6 HNE.out.symm
  clear g4 g5 g6 X3 Y3 HP3
  go_wp2_with fail
  have HP5 : Hid (HowX (w4.alloc (.cells #[.int .i64 how] 3)) y (.slice (some ⟨w4.heap.size, 0, none⟩) 1 1) [how]) := HowX.one (rnew _ _ _) (Nat.ne_of_gt Y4.out.sr.lt) hh.out
  have X5 : Hid (ShS E w (w4.alloc (.cells #[.int .i64 how] 3)) x (flN l [how] fs0 fs0 (min 20 l.length)) (plF (l.take 20) fs0) kx) := X4.out.below (bl1 _ _)
  have Y5 : Hid (ShS E w (w4.alloc (.cells #[.int .i64 how] 3)) y fs0 fs0 k) := Y4.out.below (bl1 _ _)
  clear X4 Y4
  generalize w4.alloc (.cells #[.int .i64 how] 3) = w5 at *
  refine (play_x HE hA Y5 hr HP5).mono ?_
  rintro e w6 ⟨rfl, g4⟩
  obtain ⟨ky, g5, _, g6⟩ := g4.out
  have Y6 : Hid (ShS E w w6 y (flN l [how] fs0 fs0 (min 20 l.length)) (plF (l.take 20) fs0) ky) := g5
  have X6 : Hid (ShS E w w6 x (flN l [how] fs0 fs0 (min 20 l.length)) (plF (l.take 20) fs0) kx) := Y5.out.beside1 X5.out g6 HNE.out
  clear g4 g5 g6 X5 Y5 HP5
  generalize flN l [how] fs0 fs0 (min 20 l.length) = fl at *
  generalize plF (l.take 20) fs0 = fs at *
  go_wp2_with fail
  refine (bound_s X6).mono ?_
  rintro e w7 ⟨rfl, g7⟩
  have X7 : Hid (ShB E bdF w w7 x fl fs kx) := g7.out.1
  have Y7 : Hid (ShS E w w7 y fl fs ky) := X6.out.beside1 Y6.out g7.out.2 HNE.out.symm
  clear g7 X6 Y6
  go_wp2_with fail
  refine (bound_s Y7).mono ?_
  rintro e w8 ⟨rfl, g8⟩
  have Y8 : Hid (ShB E bdF w w8 y fl fs ky) := g8.out.1
  have X8 : Hid (ShB E bdF w w8 x fl fs kx) := X7.out.other g8.out.2 Y7.out.xB HNE.out Y7.out.sr.notRead
  have HVV : Hid (∀ c, c < 48 → (ky.last c).v = (kx.last c).v) := fun c _ => val_same Y8.out.kinv.v X8.out.kinv.v c
  have HN8 : Hid (x < w8.heap.size ∧ w.heap.size ≤ w8.heap.size) := ⟨X8.out.sr.lt, X8.out.bel.size⟩
  clear g8 X7 Y7
  obtain ⟨i0, hi0, hz0, hz1, hz2⟩ := info_parts info68b
  go_upto_region 15 with fail
  have HM9 : Hid (FmS _ w8.heap.size) := fmS_new w8
  have X9 : Hid (ShB E bdF w _ x fl fs kx) := (((X8.out.below (bl1 _ (.cells (fmL.flatMap edC).toArray 68))).below (bl1 _ (.cells (fmB.flatMap edC).toArray 68))).below (bl1 _ (.cells fmEV.toArray 33))).below (bl1 _ (.cells fmPV.toArray 3))
  have Y9 : Hid (ShB E bdF w _ y fl fs ky) := (((Y8.out.below (bl1 _ (.cells (fmL.flatMap edC).toArray 68))).below (bl1 _ (.cells (fmB.flatMap edC).toArray 68))).below (bl1 _ (.cells fmEV.toArray 33))).below (bl1 _ (.cells fmPV.toArray 3))
  clear X8 Y8
  change Code.wp _ _ _ _ ((((w8.alloc (.cells (fmL.flatMap edC).toArray 68)).alloc (.cells (fmB.flatMap edC).toArray 68)).alloc (.cells fmEV.toArray 33)).alloc (.cells fmPV.toArray 3))
  generalize (((w8.alloc (.cells (fmL.flatMap edC).toArray 68)).alloc (.cells (fmB.flatMap edC).toArray 68)).alloc (.cells fmEV.toArray 33)).alloc (.cells fmPV.toArray 3) = w9 at *
  generalize w8.heap.size = n8 at *
  go_wp2_with fail
  go_loopw [19] (fun s wr => ∃ i : Nat, s = .int .i64 i ∧ Hid (i ≤ 12) ∧ Hid (Below w9.heap.size w9 wr)) (fun s _ => (100 - intOf s).toNat)
  case atStart => exact ⟨0, rfl, Nat.zero_le _, Below.refl _ _⟩
  case round =>
    obtain ⟨i, rfl, HI, HB⟩ := hrel
    by_cases hi : i < 12
    · obtain ⟨m1, m2, m3, m4⟩ := fmNums hi
      have HII : Hid (i < 12) := hi
      have HM : Hid (FmS wr n8) := HM9.out.below HB.out
      clear hi HI
      go_upto_region 19 with fail
      go_wp2_with (at_builtin; go_must (refine wpList_append_sl (w := _) rfl _ _ 23 rfl 68 i0 _ 2 32 Tryz.underlying23 hi0 hz0 hz1 hz2 rfl _ _ _ rfl (slc_nil _ _ _) ⟨n8, 0, none⟩ 3 3 (fmL.flatMap edC) rfl (by decide) rfl ?c1 ?c2 ?c3 ?c4 ?_))
      case c1 => exact HM.out.ca
      case c2 =>
        intro u hu
        have : ∀ u ∈ fmL.flatMap edC, u.oneCell' = true := by
          rw [← List.all_eq_true]; kernel_rfl
        exact this u hu
      case c3 => decide
      case c4 => decide
      intro v1 u1 hs1 hg1 ho1
      have HS1 : Hid (Slc u1 68 2 v1 3 (fmL.flatMap edC)) := hs1
      have HB1 : Hid (Below w9.heap.size w9 u1) := HB.out.grown hg1 HB.out.size (fun k hk => by cases hk)
      have HO1 : Hid (∀ g, v1.ownBlock = some g → w9.heap.size ≤ g) := fun g hg => by
        rcases ho1 with ⟨e, ne⟩ | ⟨e, _⟩
        · exact absurd rfl ne
        · rw [e] at hg; cases hg; exact HB.out.size
      have HM1 : Hid (FmS u1 n8) := HM9.out.below HB1.out
      clear hs1 hg1 ho1 HM HB
      obtain ⟨c0, c1⟩ := HM1.out.cb HII.out
      obtain ⟨bc, hbc⟩ : ∃ b, (fmB.getD i (eB, eB)).1 = b := ⟨_, rfl⟩
      obtain ⟨bt, hbt⟩ : ∃ b, (fmB.getD i (eB, eB)).2 = b := ⟨_, rfl⟩
      have HBB : Hid (fmB.getD i (eB, eB) = (bc, bt)) := by unfold Hid; rw [← hbc, ← hbt]
      rw [hbc] at c0
      rw [hbt] at c1
      clear hbc hbt
      obtain ⟨e0, e1, _, _⟩ := two_cells (rnew u1 #[.string bc, .string bt] 68)
      have HE0 : Hid _ := e0
      have HE1 : Hid _ := e1
      clear e0 e1
      go_wp2_with (at_builtin; go_must (refine wpList_append_sl (w := _) rfl _ _ 23 rfl 68 i0 _ 2 32 Tryz.underlying23 hi0 hz0 hz1 hz2 rfl _ _ _ rfl (HS1.out.al _) ⟨u1.heap.size, 0, none⟩ 1 1 [.string bc, .string bt] rfl (by decide) rfl ?c1 ?c2 ?c3 ?c4 ?_))
      case c1 =>
        intro j u hj
        match j, hj with
        | 0, hj => simp at hj; subst hj; exact HE0.out
        | 1, hj => simp at hj; subst hj; exact HE1.out
        | j + 2, hj => simp at hj
      case c2 =>
        intro u hu
        simp only [List.mem_cons, List.not_mem_nil, or_false] at hu
        rcases hu with rfl | rfl <;> rfl
      case c3 => decide
      case c4 => decide
      intro v2 u2 hs2 hg2 ho2
      have HS2 : Hid (Slc u2 68 2 v2 4 ((fmL ++ [fmB.getD i (eB, eB)]).flatMap edC)) := by
        unfold Hid
        rw [HBB.out, List.flatMap_append]; exact hs2
      have HB2 : Hid (Below w9.heap.size w9 u2) := (HB1.out.alloc HB1.out.size (.cells #[.string bc, .string bt] 68)).grown hg2 (Nat.le_trans HB1.out.size (bl1 u1 (.cells #[.string bc, .string bt] 68)).size) HO1.out
      clear hs2 hg2 ho2 HE0 HE1 HS1 HB1 HO1 c0 c1 HM1
      go_wp2_with fail
      refine (refused_b hA (X9.out.below HB2.out) HII HS2).mono ?_
      rintro e u3 ⟨rfl, g3⟩
      have HB3 : Hid (Below w9.heap.size w9 u3) := HB2.out.trans (g3.mono HB2.out.size)
      have HM3 : Hid (FmS u3 n8) := HM9.out.below HB3.out
      clear g3 HB2 HS2
      have d0 := HM3.out.cc HII.out
      have d1 := HM3.out.cd HII.out
      generalize fmE.getD i 0 = ee at *
      generalize fmP.getD i 0 = ep at *
      go_wp2_with fail
      exact ⟨⟨i + 1, rfl, HII.out, HB3⟩, fm_meas HII.out⟩
    · have hge : ¬ (i : Int) < 12 := ge_c (n := 12) hi
      have hmk := mk9
      clear hi HI
      go_wp2_with fail
      refine (edit_long _ x _ 9 9 (by omega)).mono ?_
      rintro e w11 ⟨rfl, hw⟩
      have HB11 : Hid (Below w9.heap.size w9 w11) := by unfold Hid; rw [hw]; exact HB.out.alloc HB.out.size _
      clear hw HB hmk
      go_wp2_with fail
      refine (work_order w11 x).mono ?_
      rintro e w12 ⟨rfl, b12⟩
      have HB12 : Hid (Below w9.heap.size w9 w12) := HB11.out.trans (b12.mono HB11.out.size)
      clear b12 HB11
      go_wp2_with fail
      refine (work_way _ x).mono ?_
      rintro e w13 ⟨rfl, b13⟩
      have HB13 : Hid (Below w9.heap.size w9 w13) := (HB12.out.alloc HB12.out.size _).trans (b13.mono (Nat.le_trans HB12.out.size (bl1 w12 (.cells #[.slice none 0 0] 72)).size))
      clear b13 HB12
      go_wp2_with fail
      refine (bound_none _ x ⟨#[70, 57]⟩ (by decide) 1 2).mono ?_
      rintro e w14 ⟨rfl, b14⟩
      have HB14 : Hid (Below w9.heap.size w9 w14) := (HB13.out.alloc HB13.out.size _).trans (b14.mono (Nat.le_trans HB13.out.size (bl1 w13 (.cells #[.slice none 0 0] 72)).size))
      clear b14 HB13
      go_wp2_with fail
      refine (bound_range _ x ⟨#[70, 56]⟩ 47 (by decide) 2 1 (by decide)).mono ?_
      rintro e w15 ⟨rfl, b15⟩
      have HB15 : Hid (Below w9.heap.size w9 w15) := HB14.out.trans (b15.mono HB14.out.size)
      clear b15 HB14
      go_wp2_with fail
      refine (value_none _ x ⟨#[102, 56]⟩ (by decide)).mono ?_
      rintro e w16 ⟨rfl, b16⟩
      have HB16 : Hid (Below w9.heap.size w9 w16) := HB15.out.trans (b16.mono HB15.out.size)
      clear b16 HB15
      go_wp2_with fail
      have HQ17 : Hid ((w16.alloc (.cells #[.int .i64 0, .int .i64 0, .string ⟨#[]⟩] 52)).heap[w16.heap.size]? = some (.cells #[.int .i64 0, .int .i64 0, .string ⟨#[]⟩] 52 (0, 0))) := rnew _ _ _
      have HB17 : Hid (Below w9.heap.size w9 (w16.alloc (.cells #[.int .i64 0, .int .i64 0, .string ⟨#[]⟩] 52))) := HB16.out.alloc HB16.out.size _
      clear HB16
      generalize w16.alloc (.cells #[.int .i64 0, .int .i64 0, .string ⟨#[]⟩] 52) = w17 at *
      generalize w16.heap.size = b33 at *
      refine (formula_none _ x ⟨#[65, 49, 48]⟩ (by decide)).mono ?_
      rintro e w18 ⟨rfl, b18⟩
      have HB18 : Hid (Below w9.heap.size w9 w18) := HB17.out.trans (b18.mono HB17.out.size)
      have HQ18 : Hid (w18.heap[b33]? = some (.cells #[.int .i64 0, .int .i64 0, .string ⟨#[]⟩] 52 (0, 0))) := by unfold Hid; rw [b18.block _ (Array.getElem?_eq_some_iff.1 HQ17.out).1]; exact HQ17.out
      clear b18 HB17 HQ17
      obtain ⟨z0, z1, z2, z3, z4, z5⟩ := box3 rfl HQ18.out
      go_wp2_with fail
      clear z0 z1 z2 z3 z4 z5 HQ18
      refine (alike_w (X9.out.below HB18.out).sr (Y9.out.below HB18.out).sr HVV).mono ?_
      rintro e w19 ⟨rfl, b19⟩
      have HB19 : Hid (Below w9.heap.size w9 w19) := HB18.out.trans (b19.mono HB18.out.size)
      have X19 : Hid (ShB E bdF w w19 x fl fs kx) := X9.out.below HB19.out
      have HM19 : Hid (FmS w19 n8) := HM9.out.below HB19.out
      clear b19 HB18 HB19 X9 Y9
      have HSL : Hid (Slc (w19.alloc (.cells (fmT.flatMap edC).toArray 68)) 68 2 (.slice (some ⟨n8, 0, none⟩) 3 3) 3 (fmL.flatMap edC)) := ⟨rfl, .inr ⟨n8, 0, 3, _, rfl, (HM19.out.below (bl1 _ _)).a, Nat.le_refl _, by decide, by decide, rfl⟩⟩
      go_wp2_with (at_builtin; go_must (refine wpList_append_sl (w := _) rfl _ _ 23 rfl 68 i0 _ 2 32 Tryz.underlying23 hi0 hz0 hz1 hz2 rfl _ _ _ rfl HSL.out ⟨w19.heap.size, 0, none⟩ 2 2 (fmT.flatMap edC) rfl (by decide) rfl ?c1 ?c2 ?c3 ?c4 ?_))
      case c1 =>
        intro j u hj
        rw [Addr.add_mid, Nat.zero_add]
        refine (cell_of_row _ _ j _ 68 (0, 0) (rnew w19 (fmT.flatMap edC).toArray 68)).trans ?_
        rw [List.getElem?_toArray]; exact hj
      case c2 =>
        intro u hu
        have : ∀ u ∈ fmT.flatMap edC, u.oneCell' = true := by
          rw [← List.all_eq_true]; kernel_rfl
        exact this u hu
      case c3 => decide
      case c4 => decide
      intro v2 u2 hs2 hg2 ho2
      have HS2 : Hid (Slc u2 68 2 v2 5 ((fmL ++ fmT).flatMap edC)) := by
        unfold Hid
        rw [List.flatMap_append]; exact hs2
      have X20 : Hid (ShB E bdF w u2 x fl fs kx) := by
        have ho : Only n8 (w19.alloc (.cells (fmT.flatMap edC).toArray 68)) u2 := ⟨hg2.os, hg2.tape, hg2.output, hg2.size, fun k hk hx => hg2.block k hk (fun e => hx (Option.some.inj e))⟩
        refine (X19.out.below (bl1 _ _)).other ho HN8.out.2 (Nat.ne_of_lt HN8.out.1) (fun cur e => ?_)
        rw [(HM19.out.below (bl1 _ _)).a] at e
        cases e
      clear hs2 hg2 ho2 HSL X19 HM19
      go_wp2_with fail
      refine (taken_b hA X20 HS2).mono ?_
      rintro e w21 ⟨rfl, X21⟩
      clear X20 HS2
      go_wp2_with fail
      refine (worked_b HE hA X21 how hh).mono ?_
      rintro e w22 ⟨v22, k22, bg22, rfl, g22⟩
      have X22 : Hid (ShB E bdF w w22 x (fmZ fs) (fmZ fs) k22) := g22.out.1
      clear g22 X21
      have HV47 : Hid ((k22.last 47).v = vI (-5)) := fm_v47 HE.out rfl X22.out.kinv.v
      have HV46 : Hid ((k22.last 46).v = vI 1) := fm_v46 HE.out rfl rfl X22.out.kinv.v
      have HV0 : Hid ((k22.last 0).v = vI 2) := fm_v0 HE.out rfl X22.out.kinv.v
      go_wp2_with fail
      refine (is_b X22 (c := 47) (by unfold Hid; decide) (-5) HV47.out).mono ?_
      rintro e w23 ⟨rfl, g23⟩
      rw [eqB_self]
      have X23 : Hid (ShB E bdF w w23 x (fmZ fs) (fmZ fs) k22) := g23.out.1
      clear g23 X22
      go_wp2_with fail
      refine (is_b X23 (c := 46) (by unfold Hid; decide) 1 HV46.out).mono ?_
      rintro e w24 ⟨rfl, g24⟩
      rw [eqB_self]
      have X24 : Hid (ShB E bdF w w24 x (fmZ fs) (fmZ fs) k22) := g24.out.1
      clear g24 X23
      go_wp2_with fail
      refine (is_b X24 (c := 0) (by unfold Hid; decide) 2 HV0.out).mono ?_
      rintro e w25 ⟨rfl, g25⟩
      rw [eqB_self]
      have X25 : Hid (ShB E bdF w w25 x (fmZ fs) (fmZ fs) k22) := g25.out.1
      clear g25 X24
      go_wp2_with fail
      go_ret
      exact ⟨rfl, X25.out.bel⟩
end Go.Proofs.YtiocnfambeochaaGreatDoor
