/- Texts put together. -/
import Derived.Test.YtlpmmmmniojflaaGreatDoorQ39
import Derived.Test.YtlpmmmmniojflaaGreatDoorQ06
import Derived.Test.YtlpmmmmniojflaaGreatDoorQ28
import Derived.Test.YtlpmmmmniojflaaGreatDoorQ07
import Derived.Test.YtlpmmmmniojflaaGreatDoorTb
/- A working out, walked: a cell's turn, where it is fresh. -/
set_option linter.unusedVariables false
set_option linter.unusedSimpArgs false
namespace Go.Proofs.YtlpmmmmniojflaaGreatDoor
open Go.RowKit
set_option maxRecDepth 100000 in
set_option maxHeartbeats 8000000 in
theorem turn0 (E : Env) (hE : Hid (RightW E)) (w : World) (own : Nat → Nat) (b x : Nat) (r : Rn) (c : Nat) (hc : c < 48) (h : Hid (RR w own b x r)) (hV : Hid (EVc w own)) (h0 : Hid ((r.tk c).st = 0)) (hsw : Hid (SW r.store)) (hln : Hid ((r.tk c).kn.length + (known r c).length ≤ 1000000)) (h2 : Hid (TryOK E (freshP r c) c)) :
    Calls Tryz.prog 115 #[.pointer (some ⟨b, 0, none⟩), .int .i64 c] w fun e w' => e = .returned (trnV (turnP E r c)) ∧ Hid (RS w own b x w' (turnP E r c).1) := by
  obtain ⟨i0, hi, hz0, hz1, hz2⟩ := info_parts info95c
  have hci : (c : Int) < 48 := by omega
  have hc0 : 0 ≤ (c : Int) := by omega
  have HC : Hid (c < 48) := hc
  have s1 := (h.out.tk c hc).st
  rw [← T_addr] at s1
  rw [h0.out] at s1
  have HF : Hid (turnP E r c = tryT E (freshP r c) c) := by unfold Hid turnP; rw [if_pos h0.out]
  have HTA : Hid (∀ (w' : World) (own' : Nat → Nat), RR w' own' b x (freshP r c) → Calls Tryz.prog 143 #[.pointer (some ⟨b, 0, none⟩), .int .i64 c] w' fun e w'' => e = .returned (.bool (tryK E c ((freshP r c).tk c).kn (freshP r c)).2) ∧ Hid (RS w' own' b x w'' (tryK E c ((freshP r c).tk c).kn (freshP r c)).1)) := fun w' own' hR => try_w E hE w' own' b x (freshP r c) c hc hR h2.out.wt h2.out.st h2.out.s1 h2.out.kn
  have HGO : Hid _ := h2.out.go
  rw [HF.out]
  unfold tryT
  obtain ⟨⟨r1, B⟩, hr1⟩ : ∃ q, tryK E c ((freshP r c).tk c).kn (freshP r c) = q := ⟨_, rfl⟩
  rw [hr1] at HTA HGO ⊢
  dsimp only at HTA HGO
  obtain ⟨v, xs, hv, hs, hal⟩ := (h.out.tk c hc).kn
  have HS : Hid (SlC w own b (cK c) 95 5 v (r.tk c).kn.length xs) := hs
  have HAL : Hid (AL w own (r.tk c).kn xs) := hal
  have HKW := known_w w.drew own b x r c hc (h.out.below (Below.refl _ _).drew (fun _ _ => rfl)).1 hsw
  have hlt := h.out.lt
  rw [← T_addr] at hv
  have hz2' := h.out.frozen (290 + c * 16 + 2)
  have hz0' := h.out.frozen (290 + c * 16)
  have hne : Hid (some b ≠ v.ownBlock) := fun e => (hs.col b e.symm).2 rfl
  have HCL : Hid (∀ (w3 w4 : World) (v2 : Value) (news : List Value), AL w own (known r c) news → Below w.heap.size w w3 → w3.grownBy w4 v.ownBlock → (v2.ownBlock = v.ownBlock ∨ (v2.ownBlock = some w3.heap.size ∧ w3.grownBy w4 none)) → Slc w4 95 5 v2 ((r.tk c).kn.length + (known r c).length) (xs ++ news) → RS w own b x ((w4.setCell ⟨b, 290 + c * 16 + 2, none⟩ v2).setCell ⟨b, 290 + c * 16, none⟩ (.int .i64 1)) (freshP r c)) := by
    intro w3 w4 v2 news q1 q2 q3 q4 q5
    have := fresh_close h.out hc h0.out hs hal q1 q2 q3 q4 q5
    rw [← T_addr] at this
    exact this
  clear hr1 HF h2 hc hs hal
  cases B with
  | false =>
    dsimp only
    go_enter Tryz.func115, Tryz.ntmps115
    go_wp2_with fail
    go_region_law (first
      | (refine step_append_two (by rfl) _ _ _ (by rfl) 95 i0 _ 5 72 Tryz.underlying174 hi hz0 hz1 hz2 rfl v (r.tk c).kn.length xs (by rfl) HS3.out uu (known r c).length news (by rfl) HU.out HON.out (by have := hln.out; unfold maxLen; omega) (by have := hln.out; omega) ?_; intro v2 w4 hsl hgr hob; obtain ⟨q2, cp2, hq2⟩ := Slc.len hsl; subst hq2; have d1 := grown_cell hgr (q := b) (j := 290 + c * 16 + 2) hv3 hne.out; have f1 := grown_frozen hgr (q := b) (j := 290 + c * 16 + 2) hv3 hf3 hne.out; have d2 := grown_cell hgr (q := b) (j := 290 + c * 16) hs3 hne.out; have f2 := grown_frozen hgr (q := b) (j := 290 + c * 16) hs3 hf4 hne.out)
      | (go_simp; go_at_call 142; refine HKW.mono ?_; rintro e w3 ⟨uu, rfl, hO⟩; obtain ⟨news, hu1, hu2, hu3, hu4⟩ := hO.out; have HU : Hid (Slc w3 95 5 uu (known r c).length news) := hu1; have HN : Hid (AL w own (known r c) news) := AL.kept (w := w.drew) (w' := w) (own := own) (own' := own) (fun k _ h0 => ⟨rfl, h0⟩) _ _ hu2; have HON : Hid (∀ u ∈ news, u.oneCell' = true) := AL.one _ _ hu2; have HB3 : Hid (Below w.heap.size w w3) := ((Below.refl _ _).drew).trans hu4; have HS3 : Hid (Slc w3 95 5 v (r.tk c).kn.length xs) := Slc.kept HS.out.sl (fun g hg => hu4.block g (HS.out.sl.lt g hg)); have hv3 := (HB3.out.cell (p := ⟨b, 290 + c * 16 + 2, none⟩) hlt).trans hv; have hs3 := (HB3.out.cell (p := ⟨b, 290 + c * 16, none⟩) hlt).trans s1; have hf3 : w3.frozen? ⟨b, 290 + c * 16 + 2, none⟩ = false := (by rw [← hz2']; exact World.frozen?_of_block (w := w) (HB3.out.block b hlt)); have hf4 : w3.frozen? ⟨b, 290 + c * 16, none⟩ = false := (by rw [← hz0']; exact World.frozen?_of_block (w := w) (HB3.out.block b hlt)); clear hu1 hu2 hu3 hu4 hO))
    all_goals
      have HRS0 : Hid (RS w own b x ((w4.setCell ⟨b, 290 + c * 16 + 2, none⟩ (Value.slice q2 ((r.tk c).kn.length + (known r c).length) cp2)).setCell ⟨b, 290 + c * 16, none⟩ (.int .i64 1)) (freshP r c)) := HCL.out _ _ _ _ HN.out HB3.out hgr hob hsl
      clear hsl hgr hob
      go_wp2_with fail
      generalize (w4.setCell ⟨b, 290 + c * 16 + 2, none⟩ (Value.slice q2 ((r.tk c).kn.length + (known r c).length) cp2)).setCell ⟨b, 290 + c * 16, none⟩ (.int .i64 1) = W0 at *
      obtain ⟨own0, R0, S0⟩ := HRS0.out
      have HS0 : Hid (RStep w own W0 own0 b x) := S0
      have HT := HTA.out W0 own0 R0
      clear R0 S0 HRS0 d1 f1 d2 f2 HCL HKW
      refine HT.mono ?_
      rintro e w1 ⟨rfl, h1⟩
      obtain ⟨o1, R1, S1⟩ := h1.out
      have t2 := (R1.tk c HC.out).wt
      rw [← T_addr] at t2
      clear R1 S1 HT
      go_wp2_with fail
      go_ret2
      exact ⟨rfl, RS.comp HS0.out h1.out⟩
  | true =>
    dsimp only
    by_cases h3 : (r1.tk c).st = 3
    · rw [if_pos h3]
      go_enter Tryz.func115, Tryz.ntmps115
      go_wp2_with fail
      go_region_law (first
        | (refine step_append_two (by rfl) _ _ _ (by rfl) 95 i0 _ 5 72 Tryz.underlying174 hi hz0 hz1 hz2 rfl v (r.tk c).kn.length xs (by rfl) HS3.out uu (known r c).length news (by rfl) HU.out HON.out (by have := hln.out; unfold maxLen; omega) (by have := hln.out; omega) ?_; intro v2 w4 hsl hgr hob; obtain ⟨q2, cp2, hq2⟩ := Slc.len hsl; subst hq2; have d1 := grown_cell hgr (q := b) (j := 290 + c * 16 + 2) hv3 hne.out; have f1 := grown_frozen hgr (q := b) (j := 290 + c * 16 + 2) hv3 hf3 hne.out; have d2 := grown_cell hgr (q := b) (j := 290 + c * 16) hs3 hne.out; have f2 := grown_frozen hgr (q := b) (j := 290 + c * 16) hs3 hf4 hne.out)
        | (go_simp; go_at_call 142; refine HKW.mono ?_; rintro e w3 ⟨uu, rfl, hO⟩; obtain ⟨news, hu1, hu2, hu3, hu4⟩ := hO.out; have HU : Hid (Slc w3 95 5 uu (known r c).length news) := hu1; have HN : Hid (AL w own (known r c) news) := AL.kept (w := w.drew) (w' := w) (own := own) (own' := own) (fun k _ h0 => ⟨rfl, h0⟩) _ _ hu2; have HON : Hid (∀ u ∈ news, u.oneCell' = true) := AL.one _ _ hu2; have HB3 : Hid (Below w.heap.size w w3) := ((Below.refl _ _).drew).trans hu4; have HS3 : Hid (Slc w3 95 5 v (r.tk c).kn.length xs) := Slc.kept HS.out.sl (fun g hg => hu4.block g (HS.out.sl.lt g hg)); have hv3 := (HB3.out.cell (p := ⟨b, 290 + c * 16 + 2, none⟩) hlt).trans hv; have hs3 := (HB3.out.cell (p := ⟨b, 290 + c * 16, none⟩) hlt).trans s1; have hf3 : w3.frozen? ⟨b, 290 + c * 16 + 2, none⟩ = false := (by rw [← hz2']; exact World.frozen?_of_block (w := w) (HB3.out.block b hlt)); have hf4 : w3.frozen? ⟨b, 290 + c * 16, none⟩ = false := (by rw [← hz0']; exact World.frozen?_of_block (w := w) (HB3.out.block b hlt)); clear hu1 hu2 hu3 hu4 hO))
      all_goals
        have HRS0 : Hid (RS w own b x ((w4.setCell ⟨b, 290 + c * 16 + 2, none⟩ (Value.slice q2 ((r.tk c).kn.length + (known r c).length) cp2)).setCell ⟨b, 290 + c * 16, none⟩ (.int .i64 1)) (freshP r c)) := HCL.out _ _ _ _ HN.out HB3.out hgr hob hsl
        clear hsl hgr hob
        go_wp2_with fail
        generalize (w4.setCell ⟨b, 290 + c * 16 + 2, none⟩ (Value.slice q2 ((r.tk c).kn.length + (known r c).length) cp2)).setCell ⟨b, 290 + c * 16, none⟩ (.int .i64 1) = W0 at *
        obtain ⟨own0, R0, S0⟩ := HRS0.out
        have HS0 : Hid (RStep w own W0 own0 b x) := S0
        have HT := HTA.out W0 own0 R0
        clear R0 S0 HRS0 d1 f1 d2 f2 HCL HKW
        refine HT.mono ?_
        rintro e w1 ⟨rfl, h1⟩
        obtain ⟨o1, R1, S1⟩ := h1.out
        have t2 := (R1.tk c HC.out).st
        rw [← T_addr] at t2
        rw [h3] at t2
        clear R1 S1 HT HGO
        go_wp2_with fail
        go_ret2
        exact ⟨rfl, RS.comp HS0.out h1.out⟩
    · rw [if_neg h3]
      obtain ⟨⟨code, hcode⟩, hrun, hbg⟩ := HGO.out rfl h3
      have HCO : Hid (FmlOK E (r1.fs c) code) := hcode
      have HRU : Hid (RunOK E (beginP E r1 c) c) := hrun
      have HBG : Hid (r1.bg.length ≤ 100000) := hbg
      have H3 : Hid (¬ (r1.tk c).st = 3) := h3
      obtain ⟨k, hk1⟩ : ∃ k, ∀ (w : World) (own : Nat → Nat) (b x : Nat), RR w own b x (beginP E r1 c) → runP E c (E.B ((beginP E r1 c).fs c) + 1) (beginP E r1 c) = runP E c (k + 1) (beginP E r1 c) ∧ RunS E w own b x c (runP E c (k + 1) (beginP E r1 c)) k w := by
        obtain ⟨k, q1, q2, q3⟩ := hrun.act
        exact ⟨k, fun w own b x hR => ⟨runP_fuel E c k _ _ q1 hrun.s2 hrun.val q2, own, _, hR, RStep.refl _ _ _ _, hrun.wt, hrun.st, hrun.s2, q2, hrun.val, hrun.sw, q3, rfl⟩⟩
      have HK1 : Hid _ := hk1
      clear hcode hrun hbg hk1 HGO h3
      go_enter Tryz.func115, Tryz.ntmps115
      go_wp2_with fail
      go_region_law (first
        | (refine step_append_two (by rfl) _ _ _ (by rfl) 95 i0 _ 5 72 Tryz.underlying174 hi hz0 hz1 hz2 rfl v (r.tk c).kn.length xs (by rfl) HS3.out uu (known r c).length news (by rfl) HU.out HON.out (by have := hln.out; unfold maxLen; omega) (by have := hln.out; omega) ?_; intro v2 w4 hsl hgr hob; obtain ⟨q2, cp2, hq2⟩ := Slc.len hsl; subst hq2; have d1 := grown_cell hgr (q := b) (j := 290 + c * 16 + 2) hv3 hne.out; have f1 := grown_frozen hgr (q := b) (j := 290 + c * 16 + 2) hv3 hf3 hne.out; have d2 := grown_cell hgr (q := b) (j := 290 + c * 16) hs3 hne.out; have f2 := grown_frozen hgr (q := b) (j := 290 + c * 16) hs3 hf4 hne.out)
        | (go_simp; go_at_call 142; refine HKW.mono ?_; rintro e w3 ⟨uu, rfl, hO⟩; obtain ⟨news, hu1, hu2, hu3, hu4⟩ := hO.out; have HU : Hid (Slc w3 95 5 uu (known r c).length news) := hu1; have HN : Hid (AL w own (known r c) news) := AL.kept (w := w.drew) (w' := w) (own := own) (own' := own) (fun k _ h0 => ⟨rfl, h0⟩) _ _ hu2; have HON : Hid (∀ u ∈ news, u.oneCell' = true) := AL.one _ _ hu2; have HB3 : Hid (Below w.heap.size w w3) := ((Below.refl _ _).drew).trans hu4; have HS3 : Hid (Slc w3 95 5 v (r.tk c).kn.length xs) := Slc.kept HS.out.sl (fun g hg => hu4.block g (HS.out.sl.lt g hg)); have hv3 := (HB3.out.cell (p := ⟨b, 290 + c * 16 + 2, none⟩) hlt).trans hv; have hs3 := (HB3.out.cell (p := ⟨b, 290 + c * 16, none⟩) hlt).trans s1; have hf3 : w3.frozen? ⟨b, 290 + c * 16 + 2, none⟩ = false := (by rw [← hz2']; exact World.frozen?_of_block (w := w) (HB3.out.block b hlt)); have hf4 : w3.frozen? ⟨b, 290 + c * 16, none⟩ = false := (by rw [← hz0']; exact World.frozen?_of_block (w := w) (HB3.out.block b hlt)); clear hu1 hu2 hu3 hu4 hO))
      all_goals
        have HRS0 : Hid (RS w own b x ((w4.setCell ⟨b, 290 + c * 16 + 2, none⟩ (Value.slice q2 ((r.tk c).kn.length + (known r c).length) cp2)).setCell ⟨b, 290 + c * 16, none⟩ (.int .i64 1)) (freshP r c)) := HCL.out _ _ _ _ HN.out HB3.out hgr hob hsl
        clear hsl hgr hob
        go_wp2_with fail
        generalize (w4.setCell ⟨b, 290 + c * 16 + 2, none⟩ (Value.slice q2 ((r.tk c).kn.length + (known r c).length) cp2)).setCell ⟨b, 290 + c * 16, none⟩ (.int .i64 1) = W0 at *
        obtain ⟨own0, R0, S0⟩ := HRS0.out
        have HS0 : Hid (RStep w own W0 own0 b x) := S0
        have HT := HTA.out W0 own0 R0
        clear R0 S0 HRS0 d1 f1 d2 f2 HCL HKW
        refine HT.mono ?_
        rintro e w1 ⟨rfl, h1⟩
        obtain ⟨o1, R1, S1⟩ := h1.out
        have t2 := (R1.tk c HC.out).st
        rw [← T_addr] at t2
        have b3 : (((r1.tk c).st : Int) == 3) = false := by have := H3.out; simpa using (by omega : ¬ ((r1.tk c).st : Int) = 3)
        have b3' : ¬ ((r1.tk c).st : Int) = 3 := by have := H3.out; omega
        have HR1 : Hid (RR w1 o1 b x r1) := R1
        have HS1 : Hid (RStep w own w1 o1 b x) := HS0.out.trans S1
        have HV1 : Hid (EVc w1 o1) := hV.out.step h.out HS1.out
        clear R1 S1 HT h1
        go_wp2_with fail
        refine (begin_w E w1 o1 b x r1 c code HC.out HR1 HV1 HCO HBG).mono ?_
        rintro e w2 ⟨rfl, h2'⟩
        obtain ⟨o2, R2, S2⟩ := h2'.out
        obtain ⟨HFU, HRS⟩ := HK1.out w2 o2 b x R2
        have HFU' : Hid _ := HFU
        have HRW := runC_w E hE w2 o2 b x (beginP E r1 c) c k HC.out HRS
        have HS2 : Hid (RStep w own w2 o2 b x) := HS1.out.trans S2
        clear R2 S2 h2' HR1 HV1 HFU HRS t2
        go_wp2_with fail
        refine HRW.mono ?_
        rintro e w3 ⟨rfl, h3'⟩
        have HR3 : Hid (RS w own b x w3 (runP E c (k + 1) (beginP E r1 c))) := RS.comp HS2.out h3'.out
        obtain ⟨o3, R3, S3⟩ := h3'.out
        have t3 := (R3.tk c HC.out).st
        have t4 := (R3.tk c HC.out).wt
        rw [← T_addr] at t3 t4
        have HF3 : Hid (runT E (beginP E r1 c) c = (runP E c (k + 1) (beginP E r1 c), ((runP E c (k + 1) (beginP E r1 c)).tk c).wt, decide (((runP E c (k + 1) (beginP E r1 c)).tk c).st = 3))) := by unfold Hid runT; rw [HFU'.out]
        clear R3 S3 h3' HRW HFU'
        generalize runP E c (k + 1) (beginP E r1 c) = F at *
        by_cases h3 : (F.tk c).st = 3
        · have H4 : Hid ((F.tk c).st = 3) := h3
          rw [h3] at t3
          go_wp2_with fail
          go_quiet (fail)
          go_wp2_with fail
          go_ret2
          rw [HF3.out]
          refine ⟨?_, HR3.out.then ⟨rfl, rfl, rfl, Nat.le_refl _, fun _ _ => rfl⟩⟩
          rw [show decide ((F.tk c).st = 3) = true from decide_eq_true H4.out]; rfl
        · have c3 : (((F.tk c).st : Int) == 3) = false := by simpa using (by omega : ¬ ((F.tk c).st : Int) = 3)
          have c3' : ¬ ((F.tk c).st : Int) = 3 := by omega
          have H4 : Hid (¬ (F.tk c).st = 3) := h3
          go_wp2_with fail
          go_quiet (fail)
          go_wp2_with fail
          go_ret2
          rw [HF3.out]
          refine ⟨?_, HR3.out.then ⟨rfl, rfl, rfl, Nat.le_refl _, fun _ _ => rfl⟩⟩
          rw [show decide ((F.tk c).st = 3) = false from decide_eq_false H4.out]; rfl
end Go.Proofs.YtlpmmmmniojflaaGreatDoor
/- A working out, walked: a cell's turn. -/
set_option linter.unusedVariables false
set_option linter.unusedSimpArgs false
namespace Go.Proofs.YtlpmmmmniojflaaGreatDoor
open Go.RowKit
structure TurnOK (E : Env) (r : Rn) (c : Nat) : Prop where
  le : (r.tk c).st ≤ 3
  s0 : (r.tk c).st = 0 → TryOK E (freshP r c) c ∧ SW r.store ∧ (r.tk c).kn.length + (known r c).length ≤ 1000000
  s1 : (r.tk c).st = 1 → TryOK E r c
  s2 : (r.tk c).st = 2 → RunOK E r c
theorem turn_w (E : Env) (hE : RightW E) (w : World) (own : Nat → Nat) (b x : Nat) (r : Rn) (c : Nat) (hc : c < 48) (h : RR w own b x r) (hV : EVc w own) (hT : TurnOK E r c) :
    Calls Tryz.prog 115 #[.pointer (some ⟨b, 0, none⟩), .int .i64 c] w fun e w' => e = .returned (trnV (turnP E r c)) ∧ Hid (RS w own b x w' (turnP E r c).1) := by
  by_cases h0 : (r.tk c).st = 0
  · obtain ⟨q1, q2, q3⟩ := hT.s0 h0
    exact turn0 E hE w own b x r c hc h hV h0 q2 q3 q1
  by_cases h1 : (r.tk c).st = 1
  · exact turn1 E hE w own b x r c hc h hV (hT.s1 h1)
  by_cases h2 : (r.tk c).st = 2
  · exact turn2 E hE w own b x r c hc h (hT.s2 h2)
  · exact turn3 E w own b x r c hc h (show (r.tk c).st = 3 by have := hT.le; omega)
end Go.Proofs.YtlpmmmmniojflaaGreatDoor
/- Plain mathematics: what is known of a cell, and who is begun, grow by little a turn. -/
set_option linter.unusedVariables false
set_option linter.unusedSimpArgs false
namespace Go.Proofs.YtlpmmmmniojflaaGreatDoor
structure Cnt (n : Nat) (r : Rn) : Prop where
  kn : ∀ c, (r.tk c).kn.length ≤ 66 * n
  bg : r.bg.length ≤ n
theorem Cnt.le {n m : Nat} {r : Rn} (h : Cnt n r) (hm : n ≤ m) : Cnt m r := ⟨fun c => Nat.le_trans (h.kn c) (by omega), Nat.le_trans h.bg hm⟩
theorem Cnt.put {n : Nat} {r : Rn} (h : Cnt n r) (c : Nat) {t : Tsk} (ht : t.kn.length ≤ (r.tk c).kn.length) : Cnt n (r.put c t) := by
  refine ⟨fun i => ?_, h.bg⟩
  by_cases hi : i = c
  · subst hi; rw [put_same]; exact Nat.le_trans ht (h.kn i)
  · rw [put_ne _ _ _ hi]; exact h.kn i
theorem Cnt.settle {n : Nat} {r : Rn} (h : Cnt n r) (c : Nat) (a : Ans) : Cnt n (settle r c a) := h.put c (Nat.zero_le _)
theorem Cnt.look {E : Env} {n : Nat} {r : Rn} (h : Cnt n r) (c o : Nat) : Cnt n (look E r c o).1 := by
  unfold Go.Proofs.YtlpmmmmniojflaaGreatDoor.look
  split
  · exact h
  · split
    · exact h
    · exact h.put c (Nat.le_refl _)
theorem Cnt.tryR {E : Env} {n c : Nat} : ∀ (l : List Rd) (r : Rn), Cnt n r → Cnt n (tryR E c l r).1
  | [], r, h => h
  | x :: l, r, h => by
    have h1 : Cnt n (Go.Proofs.YtlpmmmmniojflaaGreatDoor.look E r c x.nd.c).1 := h.look c x.nd.c
    unfold Go.Proofs.YtlpmmmmniojflaaGreatDoor.tryR
    cases hl : Go.Proofs.YtlpmmmmniojflaaGreatDoor.look E r c x.nd.c with
    | mk r' o =>
      rw [hl] at h1
      cases o with
      | none => exact h1
      | some v =>
        dsimp only
        split
        · exact Cnt.tryR l _ (h1.put c (Nat.le_refl _))
        · exact h1
theorem Cnt.leave {n : Nat} {r : Rn} (h : Cnt n r) (c : Nat) : Cnt n (leaveP r c) := h.put c (Nat.le_refl _)
theorem Cnt.run {E : Env} {n c : Nat} : ∀ (k : Nat) (r : Rn), Cnt n r → Cnt n (runP E c k r)
  | 0, r, h => h
  | k + 1, r, h => by
    rw [runP]
    cases hd : (r.tk c).d [] with
    | inl v =>
      dsimp only
      exact Cnt.put (r := { r with store := r.store.add { (r.tk c).an with v := v } }) ⟨h.kn, h.bg⟩ c (Nat.zero_le _)
    | inr nd =>
      dsimp only
      have h1 : Cnt n (Go.Proofs.YtlpmmmmniojflaaGreatDoor.look E r c nd.c).1 := h.look c nd.c
      cases hl : Go.Proofs.YtlpmmmmniojflaaGreatDoor.look E r c nd.c with
      | mk r' o =>
        rw [hl] at h1
        cases o with
        | none => exact h1
        | some v =>
          dsimp only
          split
          · exact h1.settle c _
          · exact Cnt.run k _ (h1.put c (Nat.le_refl _))
theorem Cnt.fresh {n : Nat} {r : Rn} (h : Cnt n r) (hk : r.store.kept.length = 64) (c : Nat) : Cnt (n + 1) (freshP r c) := by
  have hl : (known r c).length ≤ 66 := by
    unfold known
    split
    · simp
    · rw [List.length_append]
      have h1 : (if stays r c = true then [r.last c] else []).length ≤ 1 := by split <;> simp
      have h2 : (if r.way = 2 then r.store.of (r.fs c) else []).length ≤ 64 := by
        split
        · unfold Sto.of Sto.has
          refine Nat.le_trans (List.length_filter_le _ _) ?_
          rw [List.length_take, hk]; omega
        · simp
      omega
  refine ⟨fun i => ?_, Nat.le_trans h.bg (by omega)⟩
  by_cases hi : i = c
  · subst hi
    show ((r.put i _).tk i).kn.length ≤ _
    rw [put_same]
    show ((r.tk i).kn ++ known r i).length ≤ _
    rw [List.length_append]
    have := h.kn i
    omega
  · show ((r.put c _).tk i).kn.length ≤ _
    rw [put_ne _ _ _ hi]
    have := h.kn i
    omega
theorem Cnt.tryK {E : Env} {n c : Nat} : ∀ (l : List Ans) (r : Rn), Cnt n r → l.length ≤ 66 * n → Cnt n (tryK E c l r).1
  | [], r, h, _ => h
  | a :: l, r, h, hl => by
    have h1 : Cnt n (Go.Proofs.YtlpmmmmniojflaaGreatDoor.tryR E c (a.rs.drop (r.tk c).held) r).1 := Cnt.tryR _ r h
    unfold Go.Proofs.YtlpmmmmniojflaaGreatDoor.tryK
    cases ht : Go.Proofs.YtlpmmmmniojflaaGreatDoor.tryR E c (a.rs.drop (r.tk c).held) r with
    | mk r' o =>
      rw [ht] at h1
      rw [List.length_cons] at hl
      cases o with
      | none => exact h1
      | some B =>
        cases B with
        | true => exact h1.settle c a
        | false =>
          dsimp only
          refine Cnt.tryK l _ ⟨fun i => ?_, h1.bg⟩ (by omega)
          by_cases hi : i = c
          · subst hi; rw [put_same]; show l.length ≤ _; omega
          · rw [put_ne _ _ _ hi]; exact h1.kn i
theorem Cnt.tryT {E : Env} {n c : Nat} {r : Rn} (h : Cnt n r) : Cnt (n + 1) (tryT E r c).1 := by
  have h1 : Cnt n (Go.Proofs.YtlpmmmmniojflaaGreatDoor.tryK E c (r.tk c).kn r).1 := Cnt.tryK _ r h (h.kn c)
  unfold Go.Proofs.YtlpmmmmniojflaaGreatDoor.tryT
  cases ht : Go.Proofs.YtlpmmmmniojflaaGreatDoor.tryK E c (r.tk c).kn r with
  | mk r' B =>
    rw [ht] at h1
    cases B with
    | false => exact h1.le (by omega)
    | true =>
      dsimp only
      split
      · exact h1.le (by omega)
      · refine Cnt.run _ _ ⟨fun i => ?_, ?_⟩
        · show ((r'.put c _).tk i).kn.length ≤ _
          have : (r'.tk i).kn.length ≤ 66 * n := h1.kn i
          by_cases hi : i = c
          · subst hi; rw [put_same]; show (r'.tk i).kn.length ≤ _; omega
          · rw [put_ne _ _ _ hi]; omega
        · show (r'.bg ++ [c]).length ≤ _
          rw [List.length_append]
          have : r'.bg.length ≤ n := h1.bg
          simp; omega
theorem Cnt.turn {E : Env} {n c : Nat} {r : Rn} (h : Cnt n r) (hk : r.store.kept.length = 64) : Cnt (n + 2) (turnP E r c).1 := by
  unfold turnP
  split
  · exact Cnt.tryT (h.fresh hk c)
  · split
    · exact (Cnt.tryT h).le (by omega)
    · split
      · exact (Cnt.run _ _ h).le (by omega)
      · exact h.le (by omega)
end Go.Proofs.YtlpmmmmniojflaaGreatDoor
/- What stays true of a working out gives what the walk of a turn asks. -/
set_option linter.unusedVariables false
set_option linter.unusedSimpArgs false
namespace Go.Proofs.YtlpmmmmniojflaaGreatDoor
structure EnvF (E : Env) (fs : Nat → ByteArray) : Prop where
  fml : ∀ c, fs c ≠ eB → ∃ code, FmlOK E (fs c) code
  small : ∀ c, fs c ≠ eB → E.B (fs c) ≤ 90000
section
variable {E : Env} {val : Nat → V} {S0 : Con} {Cl : Nat → Prop} {X : Nat → Ans → Prop} {r : Rn} {cs : List Nat} {c n : Nat}
theorem Inv.wtOK (h : Inv E val S0 Cl X r cs) : WtOK r := ⟨h.ends, fun c => ⟨(h.wt c).1, by
  by_cases h0 : 0 ≤ (r.tk c).wt
  · have := ((h.wt c).2 h0).2; omega
  · omega⟩⟩
theorem Inv.sval (h : Inv E val S0 Cl X r cs) : SVal r := fun o ho => by
  rw [(h.sett o ho).v]
  by_cases hv : val o = cyc
  · exact .inl hv
  · exact .inr ((h.hv o).ok h.Fit hv)
theorem Inv.runOK (h : Inv E val S0 Cl X r cs) (hF : EnvF E r.fs) (h2 : (r.tk c).st = 2) : RunOK E r c := by
  have hu := h.uns c (by rw [h2]; decide)
  obtain ⟨g1, g2, g3, g4, g5, g6⟩ := hu.run h2
  obtain ⟨q1, q2⟩ := act_left (r.tk c).an.rs _ _ (h.fit c hu.f) g2 (fun x hx => by
    obtain ⟨w1, w2⟩ := g3 x hx
    rw [w1]; exact okv_see ((h.hv _).ok h.Fit w2))
  have := hF.small c hu.f
  exact { wt := h.wtOK, st := h.st, s2 := h2, act := ⟨_, Nat.sub_le _ _, by rw [g4]; exact q2, by omega⟩, val := h.sval, sw := h.sw }
theorem Inv.knOK (h : Inv E val S0 Cl X r cs) (h3 : (r.tk c).st ≠ 3) : KnOK (r.tk c).kn := fun a ha x hx => (((h.uns c h3).kn a ha).1.2.2.2 x hx).2
theorem Inv.tryOK (hW : RightW E) (hX : ∀ c a, X c a → Hold val a.rs) (h : Inv E val S0 Cl X r cs) (hF : EnvF E r.fs) (h1 : (r.tk c).st = 1) (hb : r.bg.length ≤ 100000) : TryOK E r c := by
  have h3 : (r.tk c).st ≠ 3 := by rw [h1]; decide
  refine { wt := h.wtOK, st := h.st, s1 := h1, kn := h.knOK h3, go := fun ht hs => ?_ }
  obtain ⟨r', i1, i2, i3, i4, i5⟩ := tryK_ok hW hX (r.tk c).kn r h h1 rfl
  rcases i5 with ⟨e, _⟩ | ⟨e, e3⟩ | ⟨e, e1, ek, _⟩
  · rw [e] at ht; cases ht
  · rw [e] at hs; exact absurd e3 hs
  · rw [e]
    dsimp only
    have hfs : r'.fs = r.fs := i2.fs
    obtain ⟨b1, b2⟩ := begin_ok i1 e1 ek (fun a ha => by
      have := (i1.x c a ha).2.2 e1
      rw [ek] at this
      cases this)
    have hf : r.fs c ≠ eB := (h.uns c h3).f
    refine ⟨by rw [hfs]; exact hF.fml c hf, b1.runOK (by show EnvF E r'.fs; rw [hfs]; exact hF) b2, by rw [i3]; exact hb⟩
theorem Inv.turnOK (hW : RightW E) (hX : XK E val S0 Cl X) (h : Inv E val S0 Cl X r cs) (hF : EnvF E r.fs) (hC : Cnt n r) (hn : n ≤ 10000) : TurnOK E r c := by
  have hX' : ∀ c a, X c a → Hold val a.rs := fun c a ha => (hX r cs h c a ha).1
  have hb : r.bg.length ≤ 100000 := Nat.le_trans hC.bg (by omega)
  refine { le := h.st c, s0 := fun h0 => ?_, s1 := fun h1 => h.tryOK hW hX' hF h1 hb, s2 := fun h2 => h.runOK hF h2 }
  have h1 := fresh_ok hX h h0
  have hq := (hC.fresh h.sw.len c).kn c
  have e1 : ((freshP r c).tk c) = { r.tk c with kn := (r.tk c).kn ++ known r c, st := 1 } := put_same _ _ _
  rw [e1] at hq
  dsimp only at hq
  rw [List.length_append] at hq
  exact ⟨h1.tryOK hW hX' hF (by rw [e1]) hb, h.sw, by omega⟩
end
end Go.Proofs.YtlpmmmmniojflaaGreatDoor
/- A working out, walked: waitsStill. -/
set_option linter.unusedVariables false
set_option linter.unusedSimpArgs false
namespace Go.Proofs.YtlpmmmmniojflaaGreatDoor
open Go.RowKit
set_option maxRecDepth 100000 in
set_option maxHeartbeats 4000000 in
theorem still_w (w : World) (own : Nat → Nat) (b x : Nat) (r : Rn) (c : Nat) (hc : c < 48) (h : Hid (RR w own b x r)) (hW : Hid (WtOK r)) :
    Calls Tryz.prog 118 #[.pointer (some ⟨b, 0, none⟩), .int .i64 c] w fun e w' => e = .returned (.bool (stillB r c)) ∧ Below w.heap.size w w' := by
  have hci : (c : Int) < 48 := by omega
  have hc0 : 0 ≤ (c : Int) := by omega
  have s1 := (h.out.tk c hc).wt
  rw [← T_addr] at s1
  have hr := hW.out.rng c
  have HS : Hid (stillB r c = (decide ((r.tk c).wt ≠ -1) && decide ((r.tk (r.tk c).wt.toNat).st ≠ 3))) := rfl
  by_cases hw : (r.tk c).wt = -1
  · have HS' : Hid (stillB r c = false) := by unfold Hid; rw [HS.out, decide_eq_false (by simpa using hw)]; rfl
    rw [hw] at s1
    clear HS hr hw
    go_enter Tryz.func118, Tryz.ntmps118
    go_wp2_with fail
    go_ret
    rw [HS'.out]
    exact ⟨rfl, ⟨rfl, rfl, rfl, Nat.le_refl _, fun _ _ => rfl⟩⟩
  · obtain ⟨o, ho⟩ : ∃ o : Nat, (r.tk c).wt = o := ⟨(r.tk c).wt.toNat, by omega⟩
    have ho48 : o < 48 := by omega
    rw [ho] at s1 HS
    have s2 := (h.out.tk o ho48).st
    rw [← T_addr] at s2
    have hoi : (o : Int) < 48 := by omega
    have ho0 : 0 ≤ (o : Int) := by omega
    have bo : ((o : Int) != -1) = true := by first | (simp; done) | (simp; omega)
    have bo' : ¬ (o : Int) = -1 := by omega
    have bod : decide ((o : Int) = -1) = false := decide_eq_false bo'
    have HS' : Hid (stillB r c = decide ((r.tk o).st ≠ 3)) := by unfold Hid; rw [HS.out, Int.toNat_natCast, decide_eq_true bo']; rfl
    clear HS hr hw ho
    by_cases h3 : (r.tk o).st = 3
    · have H3 : Hid ((r.tk o).st = 3) := h3
      rw [h3] at s2
      go_enter Tryz.func118, Tryz.ntmps118
      go_wp2_with fail
      go_ret
      rw [HS'.out, decide_eq_false (by simpa using H3.out)]
      exact ⟨rfl, ⟨rfl, rfl, rfl, Nat.le_refl _, fun _ _ => rfl⟩⟩
    · have H3 : Hid (¬ (r.tk o).st = 3) := h3
      have b3 : (((r.tk o).st : Int) != 3) = true := by first | (simp; done) | (simp; omega)
      have b3' : ¬ ((r.tk o).st : Int) = 3 := by omega
      go_enter Tryz.func118, Tryz.ntmps118
      go_wp2_with fail
      go_ret
      rw [HS'.out, decide_eq_true (show (r.tk o).st ≠ 3 from H3.out)]
      exact ⟨rfl, ⟨rfl, rfl, rfl, Nat.le_refl _, fun _ _ => rfl⟩⟩
end Go.Proofs.YtlpmmmmniojflaaGreatDoor
/- A working out, walked: alongChain. -/
set_option linter.unusedVariables false
set_option linter.unusedSimpArgs false
namespace Go.Proofs.YtlpmmmmniojflaaGreatDoor
open Go.RowKit
theorem EVc.stepC {w w' : World} {own own' : Nat → Nat} {b x : Nat} {r : Rn} (h : EVc w own) (hR : RR w own b x r) (hS : RSC w own w' own' b x) : EVc w' own' := by
  obtain ⟨g, tp, p, t, f, h1, h2, h3⟩ := h
  have hl := (Array.getElem?_eq_some_iff.1 h3).1
  refine ⟨g, tp, p, t, f, h1, hS.zero g hl h2, ?_⟩
  rw [hS.blk g hl h2]
  · exact h3
  · intro e
    obtain ⟨cs, hb, hs⟩ := hR.blk
    rw [e, hb] at h3
    cases h3
    simp at hs
  · intro e
    obtain ⟨cs, hb, hs⟩ := hR.xblk
    rw [e, hb] at h3
    cases h3
    simp at hs
theorem Ends.next {S : Type} {f : S → S} {fin : S → Bool} {s s' : S} (h : Ends f fin s s') (hf : fin s = false) : Ends f fin (f s) s' := by
  obtain ⟨n, h1, h2, h3⟩ := h
  cases n with
  | zero => rw [← h1] at h2; rw [show iter f 0 s = s from rfl, hf] at h2; cases h2
  | succ n => exact ⟨n, h1, h2, fun k hk => h3 (k + 1) (by omega)⟩
theorem Ends.now {S : Type} {f : S → S} {fin : S → Bool} {s s' : S} (h : Ends f fin s s') (hf : fin s = true) : s' = s := (Ends.same (Ends.here hf) h).symm
def ChS (E : Env) (val : Nat → V) (S0 : Con) (Cl : Nat → Prop) (X : Nat → Ans → Prop) (w : World) (own : Nat → Nat) (b x : Nat) (r0 : Rn) (fin : CS) (g : Nat) (s : CS) (wr : World) : Prop :=
  ∃ own1 n, RR wr own1 b x s.r ∧ RSC w own wr own1 b x ∧ ChA wr x s.ch ∧ ChJ E val S0 Cl X r0 s ∧ Ends (chainF E) chainE s fin ∧ Cnt n s.r ∧ n + 2 * chPot s ≤ 10000 ∧ g = chPot s
section
variable {E : Env} {val : Nat → V} {S0 : Con} {Cl : Nat → Prop} {X : Nat → Ans → Prop}
set_option maxRecDepth 100000 in
set_option maxHeartbeats 4000000 in
theorem chain_w (hW : Hid (RightW E)) (hX : Hid (XK E val S0 Cl X)) (w : World) (own : Nat → Nat) (b x : Nat) (r0 : Rn) (ch : List Nat) (fin : CS) (hR : Hid (RR w own b x r0)) (hV : Hid (EVc w own)) (hF : Hid (EnvF E r0.fs)) (h : Hid (ChS E val S0 Cl X w own b x r0 fin (chPot ⟨0, ch, r0⟩) ⟨0, ch, r0⟩ w)) :
    Calls Tryz.prog 84 #[.pointer (some ⟨b, 0, none⟩), .pointer (some ⟨x, 384, none⟩)] w fun e w' => e = .returned (.tuple #[]) ∧ Hid (∃ own', RR w' own' b x fin.r ∧ RSC w own w' own' b x ∧ ChA w' x fin.ch) := by
  obtain ⟨g0, hg0⟩ : ∃ g, chPot ⟨0, ch, r0⟩ = g := ⟨_, rfl⟩
  rw [hg0] at h
  clear hg0
  go_enter Tryz.func84, Tryz.ntmps84
  go_wp2_with fail
  go_loopg [4] g0 (fun g s wr => ∃ S : CS, s = .int .i64 S.at' ∧ Hid (ChS E val S0 Cl X w own b x r0 fin g S wr))
  case atStart => exact ⟨⟨0, ch, r0⟩, rfl, h⟩
  case round =>
    obtain ⟨S, rfl, HS⟩ := hrel
    obtain ⟨own1, n, R1, S1, A1, J1, E1, C1, P1, G1⟩ := HS.out
    have HG : Hid (gk = chPot S) := G1
    by_cases hat : S.at' < 48
    · have hch : chainE S = false := by simpa [chainE] using hat
      obtain ⟨⟨J2, P2⟩, c, hc, hget, hout⟩ := chain_step hW.out hX.out J1 hch
      have hcell := A1.2 _ _ hget
      have hE2 := E1.next hch
      obtain ⟨⟨cs1, I1⟩, K1, Fr1, _⟩ := J1
      have HT : Hid (TurnOK E S.r c) := I1.turnOK hW.out hX.out (by rw [Fr1.fs]; exact hF.out) C1 (by omega)
      have HSW : Hid (S.r.store.kept.length = 64) := I1.sw.len
      have HR1 : Hid (RR wr own1 b x S.r) := R1
      have HS1 : Hid (RSC w own wr own1 b x) := S1
      have HA1 : Hid (ChA wr x S.ch) := A1
      have HJ2 : Hid (ChJ E val S0 Cl X r0 (chainF E S)) := J2
      have HP2 : Hid (chPot (chainF E S) < chPot S) := P2
      have HE2 : Hid (Ends (chainF E) chainE (chainF E S) fin) := hE2
      have HC1 : Hid (Cnt n S.r) := C1
      have HP1 : Hid (n + 2 * chPot S ≤ 10000) := P1
      have HK1 : Hid (ChOK S.ch) := K1
      have HV1 : Hid (EVc wr own1) := hV.out.stepC hR.out S1
      have HGT : Hid (S.ch[S.at']? = some c) := hget
      have HAT : Hid (S.at' < 48) := hat
      have hati : (S.at' : Int) < 48 := by omega
      have hat0 : 0 ≤ (S.at' : Int) := by omega
      have w1' : IntKind.i64.wrap ((S.at' : Int) + 1) = (S.at' : Int) + 1 := by rw [IntKind.wrap_i64]; omega
      have w2' : wrap64 ((S.at' : Int) + 1) = (S.at' : Int) + 1 := by unfold wrap64; omega
      clear R1 S1 A1 J2 E1 C1 P1 P2 G1 HS hE2 I1 K1 Fr1 hget hat h
      obtain ⟨u, hu⟩ : ∃ u, turnP E S.r c = u := ⟨_, rfl⟩
      rw [hu] at hout
      have HU : Hid (turnP E S.r c = u) := hu
      clear hu
      go_wp2_with fail
      refine (turn_w E hW.out wr own1 b x S.r c hc HR1.out HV1.out HT.out).mono ?_
      rintro e w2 ⟨rfl, h2⟩
      rw [HU.out] at h2 ⊢
      unfold trnV
      rcases hout with ⟨ht, hf⟩ | ⟨ht, o, ho, ho48, hoc, hod, hf⟩
      · rw [ht]
        have HFF : Hid (chainF E S = ⟨S.at' + 1, S.ch, u.1⟩) := hf
        clear hf ht
        go_wp2_with fail
        go_roundg (chPot (chainF E S))
        case rel =>
          obtain ⟨own2, R2, S2⟩ := h2.out
          refine ⟨chainF E S, by rw [HFF.out]; go_num, own2, n + 2, ?_, HS1.out.trans S2.toC, ?_, HJ2.out, HE2.out, ?_, ?_, rfl⟩
          · rw [HFF.out]; exact R2
          · rw [HFF.out]; exact HA1.out.step S2
          · rw [HFF.out]; show Cnt (n + 2) u.1; rw [← HU.out]; exact HC1.out.turn HSW.out
          · have := HP1.out; have := HP2.out; omega
        case measure => have := HG.out; have := HP2.out; omega
      · rw [ht, ho]
        have HFF : Hid (chainF E S = ⟨S.at', moveP S.at' o S.ch, leaveP u.1 c⟩) := hf
        have HOC : Hid (o ≠ c) := hoc
        have HOD : Hid (o ∈ S.ch.drop S.at') := hod
        obtain ⟨own2, R2, S2⟩ := h2.out
        have HR2 : Hid (RR w2 own2 b x u.1) := R2
        have HS2 : Hid (RStep wr own1 w2 own2 b x) := S2
        clear hf ht h2 hoc hod R2 S2
        go_wp2_with fail
        refine (leave_w w2 own2 b x u.1 c hc HR2).mono ?_
        rintro e w3 ⟨rfl, h3⟩
        obtain ⟨own3, R3, S3⟩ := h3.out
        have HR3 : Hid (RR w3 own3 b x (leaveP u.1 c)) := R3
        have HS3 : Hid (RStep wr own1 w3 own3 b x) := HS2.out.trans S3
        have HA3 : Hid (ChA w3 x S.ch) := HA1.out.step HS3.out
        clear h3 R3 S3
        go_wp2_with fail
        refine (moveTo_w w3 x S.at' o S.ch HR3.out.xblk HA3 HOD (by unfold Hid; rw [HGT.out]; intro e; exact HOC.out (Option.some.inj e).symm) HK1.out.only).mono ?_
        rintro e w4 ⟨rfl, h4⟩
        go_wp2_with fail
        go_roundg (chPot (chainF E S))
        case rel =>
          obtain ⟨A4, M4⟩ := h4.out
          refine ⟨chainF E S, by rw [HFF.out], own3, n + 2, ?_, (HS1.out.trans HS3.out.toC).mv M4, ?_, HJ2.out, HE2.out, ?_, ?_, rfl⟩
          · rw [HFF.out]; exact HR3.out.mv M4
          · rw [HFF.out]; exact A4
          · rw [HFF.out]; show Cnt (n + 2) (leaveP u.1 c); rw [← HU.out]; exact (HC1.out.turn HSW.out).leave c
          · have := HP1.out; have := HP2.out; omega
        case measure => have := HG.out; have := HP2.out; omega
    · have hch : chainE S = true := by simpa [chainE] using hat
      have hfin : fin = S := E1.now hch
      have HFIN : Hid (∃ own', RR wr own' b x fin.r ∧ RSC w own wr own' b x ∧ ChA wr x fin.ch) := by rw [hfin]; exact ⟨own1, R1, S1, A1⟩
      have hge : ¬ (S.at' : Int) < 48 := by omega
      clear R1 S1 A1 J1 E1 C1 P1 G1 HS hch hfin hat h
      go_wp2_with fail
      refine bodyPost_end (results_none rfl _ _ _) rfl ?_
      exact ⟨rfl, HFIN⟩
end
end Go.Proofs.YtlpmmmmniojflaaGreatDoor
