/- The statement Choice, walked. -/
import Derived.Test.YtiocnfambeochaaGreatDoorQ49
set_option linter.unusedVariables false
set_option linter.unusedSimpArgs false
namespace Go.Proofs.YtiocnfambeochaaGreatDoor
open Go.RowKit

theorem small_next {n : Nat} (h : n < 1000) : IntKind.i64.wrap ((n : Int) + 1) = (n : Int) + 1 ∧ wrap64 ((n : Int) + 1) = (n : Int) + 1 := ⟨by rw [IntKind.wrap_i64]; omega, by unfold wrap64; omega⟩
theorem i64_div {n : Int} (h : I64 n) : I64 (n.tdiv 9) := by
  unfold I64 at h ⊢
  rcases Int.le_total 0 n with h0 | h0
  · rw [Int.tdiv_eq_ediv_of_nonneg h0]; omega
  · have e : n.tdiv 9 = -((-n).tdiv 9) := by rw [Int.neg_tdiv, Int.neg_neg]
    rw [e, Int.tdiv_eq_ediv_of_nonneg (by omega)]; omega
theorem div_wrap {n : Int} (h : I64 n) : IntKind.i64.wrap (n.tdiv 9) = n.tdiv 9 ∧ wrap64 (n.tdiv 9) = n.tdiv 9 := by
  have := i64_div h
  unfold I64 at this
  generalize n.tdiv 9 = q at *
  exact ⟨by rw [IntKind.wrap_i64]; omega, by unfold wrap64; omega⟩
set_option maxRecDepth 100000 in
set_option maxHeartbeats 16000000 in
theorem choice_f (a b how again store : Int) (ha : Hid (I64 a)) (hb : Hid (I64 b)) (hh : Hid (I64 how)) (hg : Hid (I64 again)) (hs : I64 store) (w : World) (hA : Hid (Amb w)) :
    Calls Tryz.prog 10 #[.bool false, .int .i64 a, .int .i64 b, .int .i64 how, .int .i64 again, .int .i64 store] w fun e w' => e = .returned (.bool true) ∧ Below w.heap.size w w' := by
  obtain ⟨E, hE⟩ := env_ex
  have HE : Hid (EnvOK E) := hE
  have HS : Hid (I64 store) := hs
  obtain ⟨n, hn⟩ : ∃ n, pk a 1000 = n := ⟨_, rfl⟩
  obtain ⟨m, hm⟩ : ∃ m, pk b 1000 = m := ⟨_, rfl⟩
  have HN : Hid (pk a 1000 = n) := hn
  have HM : Hid (pk b 1000 = m) := hm
  have HN1 : Hid (n < 1000) := by unfold Hid; rw [← hn]; exact pk_lt a (by omega)
  have HM1 : Hid (m < 1000) := by unfold Hid; rw [← hm]; exact pk_lt b (by omega)
  obtain ⟨n1, n2⟩ := small_next HN1.out
  obtain ⟨m1, m2⟩ := small_next HM1.out
  obtain ⟨a1, a2⟩ := div_wrap hg.out
  clear hE hs hn hm
  go_enter Tryz.func10, Tryz.ntmps10
  go_wp2_with fail
  refine (begin_s E store HS.out w w (Below.refl _ _)).mono ?_
  rintro e w1 ⟨x, rfl, h1⟩
  have H1 : Hid (ShS E w w1 x fs0 fs0 (k0 (pk store 65))) := h1.out.1
  clear h1
  go_wp2_with fail
  refine (set_s hA H1 (t := tIfT) txt_if (c := 3) (by unfold Hid; decide)).mono ?_
  rintro e w2 ⟨rfl, h2⟩
  have H2 := h2.out.1
  have H2 : Hid _ := H2
  clear h2 H1
  go_wp2_with fail
  refine (set_s hA H2 (t := tFlag false) (txt_flag false) (c := 0) (by unfold Hid; decide)).mono ?_
  rintro e w3 ⟨rfl, h3⟩
  have H3 := h3.out.1
  have H3 : Hid _ := H3
  clear h3 H2
  go_wp2_with fail
  refine (pick_any a 1000 ha.out (by omega) (by omega) _).mono ?_
  rintro e w4 ⟨rfl, rfl⟩
  rw [HN.out]
  go_wp2_with fail
  refine (num_any n HN1.out _ (hA.out.below H3.out.bel)).mono ?_
  rintro e w4 ⟨rfl, hb4⟩
  have H4 := H3.out.below hb4
  have H4 : Hid _ := H4
  clear hb4 H3
  go_wp2_with fail
  refine (set_s hA H4 (t := nT n) (txt_num HN1.out) (c := tcC false) (by unfold Hid; decide)).mono ?_
  rintro e w5 ⟨rfl, h5⟩
  have H5 := h5.out.1
  have H5 : Hid _ := H5
  clear h5 H4
  go_wp2_with fail
  refine (set_s hA H5 (t := tRing false) (txt_ring false) (c := ocC false) (by unfold Hid; decide)).mono ?_
  rintro e w6 ⟨rfl, h6⟩
  have H6 : Hid (ShS E w w6 x fs0 (chF false n (tRing false)) (k0 (pk store 65))) := by have h := h6.out.1; rw [chF_start] at h; exact h
  clear h6 H5
  go_wp2_with fail
  refine (worked_s HE hA H6 how hh).mono ?_
  rintro e w7 ⟨v1, k1, bg1, rfl, h7⟩
  have H7 : Hid (ShS E w w7 x (chF false n (tRing false)) (chF false n (tRing false)) k1) := h7.out.1
  have HST : Hid (∀ a ∈ k1.store.has, ∃ c, a.f = chF false n (tRing false) c) := fun a ha => by
    have hp := pk_lt how (n := 9) (by omega)
    rcases h7.out.2.1.stored HE.out H6.out.kinv H6.out.ft (by omega) a ha with g | ⟨c, _, g⟩
    · rw [has_zero] at g; cases g
    · exact ⟨c, g⟩
  clear h7 H6
  go_wp2_with fail
  refine (pick_any a 1000 ha.out (by omega) (by omega) _).mono ?_
  rintro e w8 ⟨rfl, rfl⟩
  rw [HN.out]
  go_wp2_with fail
  refine (is_s H7 (c := 3) (by unfold Hid; decide) n).mono ?_
  rintro e w8 ⟨rfl, h8⟩
  rw [show (k1.last 3).v = vI n from ch_v3 HE.out HN1.out H7.out.kinv.v, eqB_self]
  have H8 : Hid (ShS E w w8 x (chF false n (tRing false)) (chF false n (tRing false)) k1) := h8.out.1
  clear h8 H7
  go_wp2_with fail
  refine (fails_s H8 (c := ocC false) (by unfold Hid; decide) 5).mono ?_
  rintro e w9 ⟨rfl, h9⟩
  rw [show (k1.last (ocC false)).v = vE 5 from ch_ring HE.out HN1.out H8.out.kinv.v, eqB_self]
  have H9 : Hid (ShS E w w9 x (chF false n (tRing false)) (chF false n (tRing false)) k1) := h9.out.1
  clear h9 H8
  go_wp2_with fail
  refine (set_s hA H9 (t := tInc) txt_inc (c := ocC false) (by unfold Hid; decide)).mono ?_
  rintro e w10 ⟨rfl, h10⟩
  have H10 : Hid (ShS E w w10 x (chF false n (tRing false)) (chF false n tInc) k1) := by have h := h10.out.1; rw [chF_other] at h; exact h
  clear h10 H9
  go_wp2_with fail
  refine (worked_s HE hA H10 again hg).mono ?_
  rintro e w11 ⟨v2, k2, bg2, rfl, h11⟩
  have H11 : Hid (ShS E w w11 x (chF false n tInc) (chF false n tInc) k2) := h11.out.1
  have HSL : Hid (Slc w11 9 1 v2 bg2.length (bg2.map nmV)) := h11.out.2.2.2
  have hp9 := pk_lt again (n := 9) (by omega)
  have HBG : Hid (∀ c ∈ bg2, c < 48) := fun c hc => (h11.out.2.1.bgOK HE.out H10.out.kinv H10.out.ft (by omega) c hc).1
  have HID : Hid (3 ∉ bg2) := ch_idle HE.out HN1.out H10.out.kinv (by omega) h11.out.2.1
  have HMU : Hid (ocC false ∈ bg2) := ch_must HE.out HN1.out H10.out.kinv HST.out (by omega) h11.out.2.1
  clear h11 H10 hp9 HST
  go_wp2_with fail
  refine (pick_any a 1000 ha.out (by omega) (by omega) _).mono ?_
  rintro e w12 ⟨rfl, rfl⟩
  rw [HN.out]
  go_wp2_with fail
  refine (is_s H11 (c := 3) (by unfold Hid; decide) n).mono ?_
  rintro e w12 ⟨rfl, h12⟩
  rw [show (k2.last 3).v = vI n from ch_v3 HE.out HN1.out H11.out.kinv.v, eqB_self]
  have H12 : Hid (ShS E w w12 x (chF false n tInc) (chF false n tInc) k2) := h12.out.1
  have HSM : Hid (Slc w12 9 1 v2 bg2.length (bg2.map nmV)) := HSL.out.kept fun g hg => h12.out.2.block g (HSL.out.lt g hg)
  clear h12 H11 HSL
  go_wp2_with fail
  refine (pick_any a 1000 ha.out (by omega) (by omega) _).mono ?_
  rintro e w13 ⟨rfl, rfl⟩
  rw [HN.out]
  go_wp2_with fail
  refine (is_s H12 (c := ocC false) (by unfold Hid; decide) ((n : Int) + 1)).mono ?_
  rintro e w13 ⟨rfl, h13⟩
  rw [show (k2.last (ocC false)).v = vI ((n : Int) + 1) from ch_inc HE.out HN1.out H12.out.kinv.v, eqB_self]
  have H13 : Hid (ShS E w w13 x (chF false n tInc) (chF false n tInc) k2) := h13.out.1
  have HSN : Hid (Slc w13 9 1 v2 bg2.length (bg2.map nmV)) := HSM.out.kept fun g hg => h13.out.2.block g (HSM.out.lt g hg)
  clear h13 H12 HSM
  go_wp2_with fail
  refine (has_w w13 v2 bg2 (nm 3) HSN).mono ?_
  rintro e w14 ⟨rfl, rfl⟩
  rw [hasB_iff HBG.out (by omega), decide_eq_false HID.out]
  go_wp2_with fail
  refine (has_w _ v2 bg2 (nm (ocC false)) HSN).mono ?_
  rintro e w14 ⟨rfl, rfl⟩
  rw [hasB_iff HBG.out (by decide), decide_eq_true HMU.out]
  clear HSN HBG HID HMU
  go_wp2_with fail
  refine (pick_any b 1000 hb.out (by omega) (by omega) _).mono ?_
  rintro e w15 ⟨rfl, rfl⟩
  rw [HM.out]
  go_wp2_with fail
  refine (num_any m HM1.out _ (hA.out.below H13.out.bel)).mono ?_
  rintro e w15 ⟨rfl, hb15⟩
  have H15 := H13.out.below hb15
  have H15 : Hid _ := H15
  clear hb15 H13
  go_wp2_with fail
  refine (set_s hA H15 (t := nT m) (txt_num HM1.out) (c := tcC false) (by unfold Hid; decide)).mono ?_
  rintro e w16 ⟨rfl, h16⟩
  have H16 : Hid (ShS E w w16 x (chF false n tInc) (chF false m tInc) k2) := by have h := h16.out.1; rw [chF_taken] at h; exact h
  clear h16 H15
  go_wp2_with fail
  refine (worked_s HE hA H16 (again.tdiv 9) (i64_div hg.out)).mono ?_
  rintro e w17 ⟨v3, k3, bg3, rfl, h17⟩
  have H17 : Hid (ShS E w w17 x (chF false m tInc) (chF false m tInc) k3) := h17.out.1
  clear h17 H16
  go_wp2_with fail
  refine (pick_any b 1000 hb.out (by omega) (by omega) _).mono ?_
  rintro e w18 ⟨rfl, rfl⟩
  rw [HM.out]
  go_wp2_with fail
  refine (is_s H17 (c := 3) (by unfold Hid; decide) m).mono ?_
  rintro e w18 ⟨rfl, h18⟩
  rw [show (k3.last 3).v = vI m from ch_v3 HE.out HM1.out H17.out.kinv.v, eqB_self]
  have H18 : Hid (ShS E w w18 x (chF false m tInc) (chF false m tInc) k3) := h18.out.1
  clear h18 H17
  go_wp2_with fail
  refine (pick_any b 1000 hb.out (by omega) (by omega) _).mono ?_
  rintro e w19 ⟨rfl, rfl⟩
  rw [HM.out]
  go_wp2_with fail
  refine (is_s H18 (c := ocC false) (by unfold Hid; decide) ((m : Int) + 1)).mono ?_
  rintro e w19 ⟨rfl, h19⟩
  rw [show (k3.last (ocC false)).v = vI ((m : Int) + 1) from ch_inc HE.out HM1.out H18.out.kinv.v, eqB_self]
  have H19 : Hid (Below w.heap.size w w19) := h19.out.1.bel
  clear h19 H18
  go_wp2_with fail
  go_ret
  exact ⟨rfl, H19.out⟩
set_option maxRecDepth 100000 in
set_option maxHeartbeats 16000000 in
theorem choice_t (a b how again store : Int) (ha : Hid (I64 a)) (hb : Hid (I64 b)) (hh : Hid (I64 how)) (hg : Hid (I64 again)) (hs : I64 store) (w : World) (hA : Hid (Amb w)) :
    Calls Tryz.prog 10 #[.bool true, .int .i64 a, .int .i64 b, .int .i64 how, .int .i64 again, .int .i64 store] w fun e w' => e = .returned (.bool true) ∧ Below w.heap.size w w' := by
  obtain ⟨E, hE⟩ := env_ex
  have HE : Hid (EnvOK E) := hE
  have HS : Hid (I64 store) := hs
  obtain ⟨n, hn⟩ : ∃ n, pk a 1000 = n := ⟨_, rfl⟩
  obtain ⟨m, hm⟩ : ∃ m, pk b 1000 = m := ⟨_, rfl⟩
  have HN : Hid (pk a 1000 = n) := hn
  have HM : Hid (pk b 1000 = m) := hm
  have HN1 : Hid (n < 1000) := by unfold Hid; rw [← hn]; exact pk_lt a (by omega)
  have HM1 : Hid (m < 1000) := by unfold Hid; rw [← hm]; exact pk_lt b (by omega)
  obtain ⟨n1, n2⟩ := small_next HN1.out
  obtain ⟨m1, m2⟩ := small_next HM1.out
  obtain ⟨a1, a2⟩ := div_wrap hg.out
  clear hE hs hn hm
  go_enter Tryz.func10, Tryz.ntmps10
  go_wp2_with fail
  refine (begin_s E store HS.out w w (Below.refl _ _)).mono ?_
  rintro e w1 ⟨x, rfl, h1⟩
  have H1 : Hid (ShS E w w1 x fs0 fs0 (k0 (pk store 65))) := h1.out.1
  clear h1
  go_wp2_with fail
  refine (set_s hA H1 (t := tIfT) txt_if (c := 3) (by unfold Hid; decide)).mono ?_
  rintro e w2 ⟨rfl, h2⟩
  have H2 := h2.out.1
  have H2 : Hid _ := H2
  clear h2 H1
  go_wp2_with fail
  refine (set_s hA H2 (t := tFlag true) (txt_flag true) (c := 0) (by unfold Hid; decide)).mono ?_
  rintro e w3 ⟨rfl, h3⟩
  have H3 := h3.out.1
  have H3 : Hid _ := H3
  clear h3 H2
  go_wp2_with fail
  refine (pick_any a 1000 ha.out (by omega) (by omega) _).mono ?_
  rintro e w4 ⟨rfl, rfl⟩
  rw [HN.out]
  go_wp2_with fail
  refine (num_any n HN1.out _ (hA.out.below H3.out.bel)).mono ?_
  rintro e w4 ⟨rfl, hb4⟩
  have H4 := H3.out.below hb4
  have H4 : Hid _ := H4
  clear hb4 H3
  go_wp2_with fail
  refine (set_s hA H4 (t := nT n) (txt_num HN1.out) (c := tcC true) (by unfold Hid; decide)).mono ?_
  rintro e w5 ⟨rfl, h5⟩
  have H5 := h5.out.1
  have H5 : Hid _ := H5
  clear h5 H4
  go_wp2_with fail
  refine (set_s hA H5 (t := tRing true) (txt_ring true) (c := ocC true) (by unfold Hid; decide)).mono ?_
  rintro e w6 ⟨rfl, h6⟩
  have H6 : Hid (ShS E w w6 x fs0 (chF true n (tRing true)) (k0 (pk store 65))) := by have h := h6.out.1; rw [chF_start] at h; exact h
  clear h6 H5
  go_wp2_with fail
  refine (worked_s HE hA H6 how hh).mono ?_
  rintro e w7 ⟨v1, k1, bg1, rfl, h7⟩
  have H7 : Hid (ShS E w w7 x (chF true n (tRing true)) (chF true n (tRing true)) k1) := h7.out.1
  have HST : Hid (∀ a ∈ k1.store.has, ∃ c, a.f = chF true n (tRing true) c) := fun a ha => by
    have hp := pk_lt how (n := 9) (by omega)
    rcases h7.out.2.1.stored HE.out H6.out.kinv H6.out.ft (by omega) a ha with g | ⟨c, _, g⟩
    · rw [has_zero] at g; cases g
    · exact ⟨c, g⟩
  clear h7 H6
  go_wp2_with fail
  refine (pick_any a 1000 ha.out (by omega) (by omega) _).mono ?_
  rintro e w8 ⟨rfl, rfl⟩
  rw [HN.out]
  go_wp2_with fail
  refine (is_s H7 (c := 3) (by unfold Hid; decide) n).mono ?_
  rintro e w8 ⟨rfl, h8⟩
  rw [show (k1.last 3).v = vI n from ch_v3 HE.out HN1.out H7.out.kinv.v, eqB_self]
  have H8 : Hid (ShS E w w8 x (chF true n (tRing true)) (chF true n (tRing true)) k1) := h8.out.1
  clear h8 H7
  go_wp2_with fail
  refine (fails_s H8 (c := ocC true) (by unfold Hid; decide) 5).mono ?_
  rintro e w9 ⟨rfl, h9⟩
  rw [show (k1.last (ocC true)).v = vE 5 from ch_ring HE.out HN1.out H8.out.kinv.v, eqB_self]
  have H9 : Hid (ShS E w w9 x (chF true n (tRing true)) (chF true n (tRing true)) k1) := h9.out.1
  clear h9 H8
  go_wp2_with fail
  refine (set_s hA H9 (t := tInc) txt_inc (c := ocC true) (by unfold Hid; decide)).mono ?_
  rintro e w10 ⟨rfl, h10⟩
  have H10 : Hid (ShS E w w10 x (chF true n (tRing true)) (chF true n tInc) k1) := by have h := h10.out.1; rw [chF_other] at h; exact h
  clear h10 H9
  go_wp2_with fail
  refine (worked_s HE hA H10 again hg).mono ?_
  rintro e w11 ⟨v2, k2, bg2, rfl, h11⟩
  have H11 : Hid (ShS E w w11 x (chF true n tInc) (chF true n tInc) k2) := h11.out.1
  have HSL : Hid (Slc w11 9 1 v2 bg2.length (bg2.map nmV)) := h11.out.2.2.2
  have hp9 := pk_lt again (n := 9) (by omega)
  have HBG : Hid (∀ c ∈ bg2, c < 48) := fun c hc => (h11.out.2.1.bgOK HE.out H10.out.kinv H10.out.ft (by omega) c hc).1
  have HID : Hid (3 ∉ bg2) := ch_idle HE.out HN1.out H10.out.kinv (by omega) h11.out.2.1
  have HMU : Hid (ocC true ∈ bg2) := ch_must HE.out HN1.out H10.out.kinv HST.out (by omega) h11.out.2.1
  clear h11 H10 hp9 HST
  go_wp2_with fail
  refine (pick_any a 1000 ha.out (by omega) (by omega) _).mono ?_
  rintro e w12 ⟨rfl, rfl⟩
  rw [HN.out]
  go_wp2_with fail
  refine (is_s H11 (c := 3) (by unfold Hid; decide) n).mono ?_
  rintro e w12 ⟨rfl, h12⟩
  rw [show (k2.last 3).v = vI n from ch_v3 HE.out HN1.out H11.out.kinv.v, eqB_self]
  have H12 : Hid (ShS E w w12 x (chF true n tInc) (chF true n tInc) k2) := h12.out.1
  have HSM : Hid (Slc w12 9 1 v2 bg2.length (bg2.map nmV)) := HSL.out.kept fun g hg => h12.out.2.block g (HSL.out.lt g hg)
  clear h12 H11 HSL
  go_wp2_with fail
  refine (pick_any a 1000 ha.out (by omega) (by omega) _).mono ?_
  rintro e w13 ⟨rfl, rfl⟩
  rw [HN.out]
  go_wp2_with fail
  refine (is_s H12 (c := ocC true) (by unfold Hid; decide) ((n : Int) + 1)).mono ?_
  rintro e w13 ⟨rfl, h13⟩
  rw [show (k2.last (ocC true)).v = vI ((n : Int) + 1) from ch_inc HE.out HN1.out H12.out.kinv.v, eqB_self]
  have H13 : Hid (ShS E w w13 x (chF true n tInc) (chF true n tInc) k2) := h13.out.1
  have HSN : Hid (Slc w13 9 1 v2 bg2.length (bg2.map nmV)) := HSM.out.kept fun g hg => h13.out.2.block g (HSM.out.lt g hg)
  clear h13 H12 HSM
  go_wp2_with fail
  refine (has_w w13 v2 bg2 (nm 3) HSN).mono ?_
  rintro e w14 ⟨rfl, rfl⟩
  rw [hasB_iff HBG.out (by omega), decide_eq_false HID.out]
  go_wp2_with fail
  refine (has_w _ v2 bg2 (nm (ocC true)) HSN).mono ?_
  rintro e w14 ⟨rfl, rfl⟩
  rw [hasB_iff HBG.out (by decide), decide_eq_true HMU.out]
  clear HSN HBG HID HMU
  go_wp2_with fail
  refine (pick_any b 1000 hb.out (by omega) (by omega) _).mono ?_
  rintro e w15 ⟨rfl, rfl⟩
  rw [HM.out]
  go_wp2_with fail
  refine (num_any m HM1.out _ (hA.out.below H13.out.bel)).mono ?_
  rintro e w15 ⟨rfl, hb15⟩
  have H15 := H13.out.below hb15
  have H15 : Hid _ := H15
  clear hb15 H13
  go_wp2_with fail
  refine (set_s hA H15 (t := nT m) (txt_num HM1.out) (c := tcC true) (by unfold Hid; decide)).mono ?_
  rintro e w16 ⟨rfl, h16⟩
  have H16 : Hid (ShS E w w16 x (chF true n tInc) (chF true m tInc) k2) := by have h := h16.out.1; rw [chF_taken] at h; exact h
  clear h16 H15
  go_wp2_with fail
  refine (worked_s HE hA H16 (again.tdiv 9) (i64_div hg.out)).mono ?_
  rintro e w17 ⟨v3, k3, bg3, rfl, h17⟩
  have H17 : Hid (ShS E w w17 x (chF true m tInc) (chF true m tInc) k3) := h17.out.1
  clear h17 H16
  go_wp2_with fail
  refine (pick_any b 1000 hb.out (by omega) (by omega) _).mono ?_
  rintro e w18 ⟨rfl, rfl⟩
  rw [HM.out]
  go_wp2_with fail
  refine (is_s H17 (c := 3) (by unfold Hid; decide) m).mono ?_
  rintro e w18 ⟨rfl, h18⟩
  rw [show (k3.last 3).v = vI m from ch_v3 HE.out HM1.out H17.out.kinv.v, eqB_self]
  have H18 : Hid (ShS E w w18 x (chF true m tInc) (chF true m tInc) k3) := h18.out.1
  clear h18 H17
  go_wp2_with fail
  refine (pick_any b 1000 hb.out (by omega) (by omega) _).mono ?_
  rintro e w19 ⟨rfl, rfl⟩
  rw [HM.out]
  go_wp2_with fail
  refine (is_s H18 (c := ocC true) (by unfold Hid; decide) ((m : Int) + 1)).mono ?_
  rintro e w19 ⟨rfl, h19⟩
  rw [show (k3.last (ocC true)).v = vI ((m : Int) + 1) from ch_inc HE.out HM1.out H18.out.kinv.v, eqB_self]
  have H19 : Hid (Below w.heap.size w w19) := h19.out.1.bel
  clear h19 H18
  go_wp2_with fail
  go_ret
  exact ⟨rfl, H19.out⟩
theorem choice_w (left : Bool) (a b how again store : Int) (ha : I64 a) (hb : I64 b) (hh : I64 how) (hg : I64 again) (hs : I64 store) (w : World) (hA : Amb w) :
    Calls Tryz.prog 10 #[.bool left, .int .i64 a, .int .i64 b, .int .i64 how, .int .i64 again, .int .i64 store] w fun e w' => e = .returned (.bool true) ∧ Below w.heap.size w w' := by
  cases left
  · exact choice_f a b how again store ha hb hh hg hs w hA
  · exact choice_t a b how again store ha hb hh hg hs w hA
end Go.Proofs.YtiocnfambeochaaGreatDoor
