/- Texts put together. -/
import Derived.Test.YtiocnfambeochaaGreatDoorQ43
import Derived.Test.YtiocnfambeochaaGreatDoorTurn
import Derived.Test.YtiocnfambeochaaGreatDoorQ31
import Derived.Test.YtiocnfambeochaaGreatDoorQ08
/- A working out: a cell that is fresh is given what is known of it. -/
set_option linter.unusedVariables false
set_option linter.unusedSimpArgs false
namespace Go.Proofs.YtiocnfambeochaaGreatDoor
open Go.RowKit

theorem app_close2 {own : Nat → Nat} {b lo hi col : Nat} {w W w1 : World} {e : TypeId} {size : Nat} {v v1 : Value} {n n' : Nat} {xs xs' : List Value} (hs : SlC w own b col e size v n xs) (hb : b < w.heap.size) (hW : Below w.heap.size w W)
    (hg : W.grownBy w1 v.ownBlock) (hob : v1.ownBlock = v.ownBlock ∨ (v1.ownBlock = some W.heap.size ∧ W.grownBy w1 none)) (hsl : Slc w1 e size v1 n' xs') {j : Nat} (h1 : lo ≤ j) (h2 : j < hi) :
    ∃ own', (∀ k, k < w.heap.size → own' k = own k) ∧ SlC (w1.setCell ⟨b, j, none⟩ v1) own' b col e size v1 n' xs' ∧ Chg own (fun c => c = col) b lo hi w (w1.setCell ⟨b, j, none⟩ v1) := by
  have hbv : some b ≠ v.ownBlock := fun e => (hs.col b e.symm).2 rfl
  have hbW : w1.heap[b]? = w.heap[b]? := by rw [hg.block b (Nat.lt_of_lt_of_le hb hW.size) hbv, hW.block b hb]
  refine ⟨fun k => if k < w.heap.size then own k else col, fun k hk => if_pos hk, ?_, ?_⟩
  · have hcol : ∀ g, v1.ownBlock = some g → (if g < w.heap.size then own g else col) = col ∧ g ≠ b := by
      intro g hg'
      rcases hob with h3 | ⟨h3, _⟩
      · rw [h3] at hg'
        have hl := hs.sl.lt g hg'
        rw [if_pos hl]; exact hs.col g hg'
      · rw [h3] at hg'
        cases hg'
        have := hW.size
        rw [if_neg (by omega)]; exact ⟨rfl, by omega⟩
    exact ⟨hsl.kept fun g hg' => Below.heap_setCell _ _ _ _ (hcol g hg').2, hcol⟩
  · refine Chg.put ⟨hg.os.trans hW.os, hg.tape.trans hW.tape, hg.output.trans hW.output, Nat.le_trans hW.size hg.size, fun k hk hkb hc => ?_, fun cs t hc => ⟨cs, by rw [hbW]; exact hc, rfl, fun _ _ => rfl⟩⟩ h1 h2 _
    rw [hg.block k (Nat.lt_of_lt_of_le hk hW.size) (fun e => hc (hs.col k e.symm).1), hW.block k hk]
theorem fresh_close {w W w1 : World} {own : Nat → Nat} {b x c : Nat} {r : Rn} {v v1 : Value} {xs news : List Value} {l : List Ans} (h : RR w own b x r) (hc : c < 48) (hs0 : (r.tk c).st = 0) (hs : SlC w own b (cK c) 95 5 v (r.tk c).kn.length xs) (hal : AL w own (r.tk c).kn xs) (hnew : AL w own l news) (hW : Below w.heap.size w W)
    (hg : W.grownBy w1 v.ownBlock) (hob : v1.ownBlock = v.ownBlock ∨ (v1.ownBlock = some W.heap.size ∧ W.grownBy w1 none)) (hsl : Slc w1 95 5 v1 ((r.tk c).kn.length + l.length) (xs ++ news)) : RS w own b x ((w1.setCell ⟨b, T c + 2, none⟩ v1).setCell ⟨b, T c, none⟩ (.int .i64 1)) { r.put c { r.tk c with kn := (r.tk c).kn ++ l, st := 1 } with bg := r.bg } := by
  obtain ⟨cs, hb, hsz⟩ := h.blk
  have hne : some b ≠ v.ownBlock := fun e => (hs.col b e.symm).2 rfl
  obtain ⟨own', o1, o2, o3⟩ := app_close2 (lo := T c + 2) (hi := T c + 3) hs h.lt hW hg hob hsl (j := T c + 2) (by omega) (by omega)
  have kb : w1.heap[b]? = some (.cells cs 187 (0, 0)) := by rw [hg.block b (Nat.lt_of_lt_of_le h.lt hW.size) hne, hW.block b h.lt]; exact hb
  have ht := h.tk c hc
  have hcell : ∀ j, j ≠ T c + 2 → (w1.setCell ⟨b, T c + 2, none⟩ v1).cell? ⟨b, j, none⟩ = w.cell? ⟨b, j, none⟩ := fun j hj => o3.cell hb (by omega)
  have hcK : cK c ≠ 0 := by unfold cK; omega
  have T1 : RR (w1.setCell ⟨b, T c + 2, none⟩ v1) own' b x (r.put c { r.tk c with kn := (r.tk c).kn ++ l }) ∧ RStep w own (w1.setCell ⟨b, T c + 2, none⟩ v1) own' b x := by
    refine h.task hc (o3.mono (fun k e => .inl e) (by omega) (by omega)) (fun k hk _ => o1 k hk) ?_
    refine { st := by rw [hcell _ (by omega)]; exact ht.st, wt := by rw [hcell _ (by omega)]; exact ht.wt, kn := ⟨v1, xs ++ news, ?_, ?_, ?_⟩, held := by rw [hcell _ (by omega)]; exact ht.held, run := fun e => by have e : (r.tk c).st = 2 := e; omega, ans := fun e => (by have e : (r.tk c).st = 3 := e; omega), mz := fun e => by have e : (r.tk c).st = 3 := e; omega }
    · exact csame187 kb (by unfold T; omega) _
    · show SlC _ own' b (cK c) 95 5 v1 ((r.tk c).kn ++ l).length (xs ++ news)
      rw [List.length_append]; exact o2
    · refine AL.keptB hb (fun k hk h0 hkb => ⟨o3.blk k hk hkb (by rw [h0]; exact fun e => hcK e.symm), by rw [o1 k hk]; exact h0⟩) _ _ (AL.app _ _ _ _ hal hnew)
  obtain ⟨own2, R2, S2⟩ := T1.1.setSt hc 1 1 rfl (by omega)
  refine ⟨own2, ?_, T1.2.trans S2⟩
  rw [put_put, put_same] at R2
  exact R2
end Go.Proofs.YtiocnfambeochaaGreatDoor

/- A working out, walked: a cell's turn, where it is fresh. -/
set_option linter.unusedVariables false
set_option linter.unusedSimpArgs false
namespace Go.Proofs.YtiocnfambeochaaGreatDoor
open Go.RowKit

set_option maxRecDepth 100000 in
set_option maxHeartbeats 8000000 in
theorem turn0 (E : Env) (hE : Hid (RightW E)) (w : World) (own : Nat → Nat) (b x : Nat) (r : Rn) (c : Nat) (hc : c < 48) (h : Hid (RR w own b x r)) (hV : Hid (EVc w own)) (h0 : Hid ((r.tk c).st = 0)) (hsw : Hid (SW r.store)) (hln : Hid ((r.tk c).kn.length + (known r c).length ≤ 1000000)) (h2 : Hid (TryOK E (freshP r c) c)) :
    Calls Tryz.prog 115 #[.pointer (some ⟨b, 0, none⟩), .int .i64 c] w fun e w' => e = .returned (trnV (turnP E r c)) ∧ Hid (RS w own b x w' (turnP E r c).1) := by
  obtain ⟨i0, hi, hz0, hz1, hz2⟩ := info_parts info95c
  have hci : (c : Int) < 48 := by omega
  have hc0 : 0 ≤ (c : Int) := by omega
  have HC : Hid (c < 48) := hc
  have s1 := (h.out.tk c hc).st
  rw [← T_addr] at s1
  rw [h0.out] at s1
  have HF : Hid (turnP E r c = tryT E (freshP r c) c) := by unfold Hid turnP; rw [if_pos h0.out]
  have HTA : Hid (∀ (w' : World) (own' : Nat → Nat), RR w' own' b x (freshP r c) → Calls Tryz.prog 143 #[.pointer (some ⟨b, 0, none⟩), .int .i64 c] w' fun e w'' => e = .returned (.bool (tryK E c ((freshP r c).tk c).kn (freshP r c)).2) ∧ Hid (RS w' own' b x w'' (tryK E c ((freshP r c).tk c).kn (freshP r c)).1)) := fun w' own' hR => try_w E hE w' own' b x (freshP r c) c hc hR h2.out.wt h2.out.st h2.out.s1 h2.out.kn
  have HGO : Hid _ := h2.out.go
  rw [HF.out]
  unfold tryT
  obtain ⟨⟨r1, B⟩, hr1⟩ : ∃ q, tryK E c ((freshP r c).tk c).kn (freshP r c) = q := ⟨_, rfl⟩
  rw [hr1] at HTA HGO ⊢
  dsimp only at HTA HGO
  obtain ⟨v, xs, hv, hs, hal⟩ := (h.out.tk c hc).kn
  have HS : Hid (SlC w own b (cK c) 95 5 v (r.tk c).kn.length xs) := hs
  have HAL : Hid (AL w own (r.tk c).kn xs) := hal
  have HKW := known_w w.drew own b x r c hc (h.out.below (Below.refl _ _).drew (fun _ _ => rfl)).1 hsw
  have hlt := h.out.lt
  rw [← T_addr] at hv
  have hz2' := h.out.frozen (290 + c * 16 + 2)
  have hz0' := h.out.frozen (290 + c * 16)
  have hne : Hid (some b ≠ v.ownBlock) := fun e => (hs.col b e.symm).2 rfl
  have HCL : Hid (∀ (w3 w4 : World) (v2 : Value) (news : List Value), AL w own (known r c) news → Below w.heap.size w w3 → w3.grownBy w4 v.ownBlock → (v2.ownBlock = v.ownBlock ∨ (v2.ownBlock = some w3.heap.size ∧ w3.grownBy w4 none)) → Slc w4 95 5 v2 ((r.tk c).kn.length + (known r c).length) (xs ++ news) → RS w own b x ((w4.setCell ⟨b, 290 + c * 16 + 2, none⟩ v2).setCell ⟨b, 290 + c * 16, none⟩ (.int .i64 1)) (freshP r c)) := by
    intro w3 w4 v2 news q1 q2 q3 q4 q5
    have := fresh_close h.out hc h0.out hs hal q1 q2 q3 q4 q5
    rw [← T_addr] at this
    exact this
  clear hr1 HF h2 hc hs hal
  cases B with
  | false =>
    dsimp only
    go_enter Tryz.func115, Tryz.ntmps115
    go_wp2_with fail
    go_region_law (first
      | (refine step_append_two (by rfl) _ _ _ (by rfl) 95 i0 _ 5 72 Tryz.underlying174 hi hz0 hz1 hz2 rfl v (r.tk c).kn.length xs (by rfl) HS3.out uu (known r c).length news (by rfl) HU.out HON.out (by have := hln.out; unfold maxLen; omega) (by have := hln.out; omega) ?_; intro v2 w4 hsl hgr hob; obtain ⟨q2, cp2, hq2⟩ := Slc.len hsl; subst hq2; have d1 := grown_cell hgr (q := b) (j := 290 + c * 16 + 2) hv3 hne.out; have f1 := grown_frozen hgr (q := b) (j := 290 + c * 16 + 2) hv3 hf3 hne.out; have d2 := grown_cell hgr (q := b) (j := 290 + c * 16) hs3 hne.out; have f2 := grown_frozen hgr (q := b) (j := 290 + c * 16) hs3 hf4 hne.out)
      | (go_simp; go_at_call 142; refine HKW.mono ?_; rintro e w3 ⟨uu, rfl, hO⟩; obtain ⟨news, hu1, hu2, hu3, hu4⟩ := hO.out; have HU : Hid (Slc w3 95 5 uu (known r c).length news) := hu1; have HN : Hid (AL w own (known r c) news) := AL.kept (w := w.drew) (w' := w) (own := own) (own' := own) (fun k _ h0 => ⟨rfl, h0⟩) _ _ hu2; have HON : Hid (∀ u ∈ news, u.oneCell' = true) := AL.one _ _ hu2; have HB3 : Hid (Below w.heap.size w w3) := ((Below.refl _ _).drew).trans hu4; have HS3 : Hid (Slc w3 95 5 v (r.tk c).kn.length xs) := Slc.kept HS.out.sl (fun g hg => hu4.block g (HS.out.sl.lt g hg)); have hv3 := (HB3.out.cell (p := ⟨b, 290 + c * 16 + 2, none⟩) hlt).trans hv; have hs3 := (HB3.out.cell (p := ⟨b, 290 + c * 16, none⟩) hlt).trans s1; have hf3 : w3.frozen? ⟨b, 290 + c * 16 + 2, none⟩ = false := (by rw [← hz2']; exact World.frozen?_of_block (w := w) (HB3.out.block b hlt)); have hf4 : w3.frozen? ⟨b, 290 + c * 16, none⟩ = false := (by rw [← hz0']; exact World.frozen?_of_block (w := w) (HB3.out.block b hlt)); clear hu1 hu2 hu3 hu4 hO))
    all_goals
      have HRS0 : Hid (RS w own b x ((w4.setCell ⟨b, 290 + c * 16 + 2, none⟩ (Value.slice q2 ((r.tk c).kn.length + (known r c).length) cp2)).setCell ⟨b, 290 + c * 16, none⟩ (.int .i64 1)) (freshP r c)) := HCL.out _ _ _ _ HN.out HB3.out hgr hob hsl
      clear hsl hgr hob
      go_wp2_with fail
      generalize (w4.setCell ⟨b, 290 + c * 16 + 2, none⟩ (Value.slice q2 ((r.tk c).kn.length + (known r c).length) cp2)).setCell ⟨b, 290 + c * 16, none⟩ (.int .i64 1) = W0 at *
      obtain ⟨own0, R0, S0⟩ := HRS0.out
      have HS0 : Hid (RStep w own W0 own0 b x) := S0
      have HT := HTA.out W0 own0 R0
      clear R0 S0 HRS0 d1 f1 d2 f2 HCL HKW
      refine HT.mono ?_
      rintro e w1 ⟨rfl, h1⟩
      obtain ⟨o1, R1, S1⟩ := h1.out
      have t2 := (R1.tk c HC.out).wt
      rw [← T_addr] at t2
      clear R1 S1 HT
      go_wp2_with fail
      go_ret2
      exact ⟨rfl, RS.comp HS0.out h1.out⟩
  | true =>
    dsimp only
    by_cases h3 : (r1.tk c).st = 3
    · rw [if_pos h3]
      go_enter Tryz.func115, Tryz.ntmps115
      go_wp2_with fail
      go_region_law (first
        | (refine step_append_two (by rfl) _ _ _ (by rfl) 95 i0 _ 5 72 Tryz.underlying174 hi hz0 hz1 hz2 rfl v (r.tk c).kn.length xs (by rfl) HS3.out uu (known r c).length news (by rfl) HU.out HON.out (by have := hln.out; unfold maxLen; omega) (by have := hln.out; omega) ?_; intro v2 w4 hsl hgr hob; obtain ⟨q2, cp2, hq2⟩ := Slc.len hsl; subst hq2; have d1 := grown_cell hgr (q := b) (j := 290 + c * 16 + 2) hv3 hne.out; have f1 := grown_frozen hgr (q := b) (j := 290 + c * 16 + 2) hv3 hf3 hne.out; have d2 := grown_cell hgr (q := b) (j := 290 + c * 16) hs3 hne.out; have f2 := grown_frozen hgr (q := b) (j := 290 + c * 16) hs3 hf4 hne.out)
        | (go_simp; go_at_call 142; refine HKW.mono ?_; rintro e w3 ⟨uu, rfl, hO⟩; obtain ⟨news, hu1, hu2, hu3, hu4⟩ := hO.out; have HU : Hid (Slc w3 95 5 uu (known r c).length news) := hu1; have HN : Hid (AL w own (known r c) news) := AL.kept (w := w.drew) (w' := w) (own := own) (own' := own) (fun k _ h0 => ⟨rfl, h0⟩) _ _ hu2; have HON : Hid (∀ u ∈ news, u.oneCell' = true) := AL.one _ _ hu2; have HB3 : Hid (Below w.heap.size w w3) := ((Below.refl _ _).drew).trans hu4; have HS3 : Hid (Slc w3 95 5 v (r.tk c).kn.length xs) := Slc.kept HS.out.sl (fun g hg => hu4.block g (HS.out.sl.lt g hg)); have hv3 := (HB3.out.cell (p := ⟨b, 290 + c * 16 + 2, none⟩) hlt).trans hv; have hs3 := (HB3.out.cell (p := ⟨b, 290 + c * 16, none⟩) hlt).trans s1; have hf3 : w3.frozen? ⟨b, 290 + c * 16 + 2, none⟩ = false := (by rw [← hz2']; exact World.frozen?_of_block (w := w) (HB3.out.block b hlt)); have hf4 : w3.frozen? ⟨b, 290 + c * 16, none⟩ = false := (by rw [← hz0']; exact World.frozen?_of_block (w := w) (HB3.out.block b hlt)); clear hu1 hu2 hu3 hu4 hO))
      all_goals
        have HRS0 : Hid (RS w own b x ((w4.setCell ⟨b, 290 + c * 16 + 2, none⟩ (Value.slice q2 ((r.tk c).kn.length + (known r c).length) cp2)).setCell ⟨b, 290 + c * 16, none⟩ (.int .i64 1)) (freshP r c)) := HCL.out _ _ _ _ HN.out HB3.out hgr hob hsl
        clear hsl hgr hob
        go_wp2_with fail
        generalize (w4.setCell ⟨b, 290 + c * 16 + 2, none⟩ (Value.slice q2 ((r.tk c).kn.length + (known r c).length) cp2)).setCell ⟨b, 290 + c * 16, none⟩ (.int .i64 1) = W0 at *
        obtain ⟨own0, R0, S0⟩ := HRS0.out
        have HS0 : Hid (RStep w own W0 own0 b x) := S0
        have HT := HTA.out W0 own0 R0
        clear R0 S0 HRS0 d1 f1 d2 f2 HCL HKW
        refine HT.mono ?_
        rintro e w1 ⟨rfl, h1⟩
        obtain ⟨o1, R1, S1⟩ := h1.out
        have t2 := (R1.tk c HC.out).st
        rw [← T_addr] at t2
        rw [h3] at t2
        clear R1 S1 HT HGO
        go_wp2_with fail
        go_ret2
        exact ⟨rfl, RS.comp HS0.out h1.out⟩
    · rw [if_neg h3]
      obtain ⟨⟨code, hcode⟩, hrun, hbg⟩ := HGO.out rfl h3
      have HCO : Hid (FmlOK E (r1.fs c) code) := hcode
      have HRU : Hid (RunOK E (beginP E r1 c) c) := hrun
      have HBG : Hid (r1.bg.length ≤ 100000) := hbg
      have H3 : Hid (¬ (r1.tk c).st = 3) := h3
      obtain ⟨k, hk1⟩ : ∃ k, ∀ (w : World) (own : Nat → Nat) (b x : Nat), RR w own b x (beginP E r1 c) → runP E c (E.B ((beginP E r1 c).fs c) + 1) (beginP E r1 c) = runP E c (k + 1) (beginP E r1 c) ∧ RunS E w own b x c (runP E c (k + 1) (beginP E r1 c)) k w := by
        obtain ⟨k, q1, q2, q3⟩ := hrun.act
        exact ⟨k, fun w own b x hR => ⟨runP_fuel E c k _ _ q1 hrun.s2 hrun.val q2, own, _, hR, RStep.refl _ _ _ _, hrun.wt, hrun.st, hrun.s2, q2, hrun.val, hrun.sw, q3, rfl⟩⟩
      have HK1 : Hid _ := hk1
      clear hcode hrun hbg hk1 HGO h3
      go_enter Tryz.func115, Tryz.ntmps115
      go_wp2_with fail
      go_region_law (first
        | (refine step_append_two (by rfl) _ _ _ (by rfl) 95 i0 _ 5 72 Tryz.underlying174 hi hz0 hz1 hz2 rfl v (r.tk c).kn.length xs (by rfl) HS3.out uu (known r c).length news (by rfl) HU.out HON.out (by have := hln.out; unfold maxLen; omega) (by have := hln.out; omega) ?_; intro v2 w4 hsl hgr hob; obtain ⟨q2, cp2, hq2⟩ := Slc.len hsl; subst hq2; have d1 := grown_cell hgr (q := b) (j := 290 + c * 16 + 2) hv3 hne.out; have f1 := grown_frozen hgr (q := b) (j := 290 + c * 16 + 2) hv3 hf3 hne.out; have d2 := grown_cell hgr (q := b) (j := 290 + c * 16) hs3 hne.out; have f2 := grown_frozen hgr (q := b) (j := 290 + c * 16) hs3 hf4 hne.out)
        | (go_simp; go_at_call 142; refine HKW.mono ?_; rintro e w3 ⟨uu, rfl, hO⟩; obtain ⟨news, hu1, hu2, hu3, hu4⟩ := hO.out; have HU : Hid (Slc w3 95 5 uu (known r c).length news) := hu1; have HN : Hid (AL w own (known r c) news) := AL.kept (w := w.drew) (w' := w) (own := own) (own' := own) (fun k _ h0 => ⟨rfl, h0⟩) _ _ hu2; have HON : Hid (∀ u ∈ news, u.oneCell' = true) := AL.one _ _ hu2; have HB3 : Hid (Below w.heap.size w w3) := ((Below.refl _ _).drew).trans hu4; have HS3 : Hid (Slc w3 95 5 v (r.tk c).kn.length xs) := Slc.kept HS.out.sl (fun g hg => hu4.block g (HS.out.sl.lt g hg)); have hv3 := (HB3.out.cell (p := ⟨b, 290 + c * 16 + 2, none⟩) hlt).trans hv; have hs3 := (HB3.out.cell (p := ⟨b, 290 + c * 16, none⟩) hlt).trans s1; have hf3 : w3.frozen? ⟨b, 290 + c * 16 + 2, none⟩ = false := (by rw [← hz2']; exact World.frozen?_of_block (w := w) (HB3.out.block b hlt)); have hf4 : w3.frozen? ⟨b, 290 + c * 16, none⟩ = false := (by rw [← hz0']; exact World.frozen?_of_block (w := w) (HB3.out.block b hlt)); clear hu1 hu2 hu3 hu4 hO))
      all_goals
        have HRS0 : Hid (RS w own b x ((w4.setCell ⟨b, 290 + c * 16 + 2, none⟩ (Value.slice q2 ((r.tk c).kn.length + (known r c).length) cp2)).setCell ⟨b, 290 + c * 16, none⟩ (.int .i64 1)) (freshP r c)) := HCL.out _ _ _ _ HN.out HB3.out hgr hob hsl
        clear hsl hgr hob
        go_wp2_with fail
        generalize (w4.setCell ⟨b, 290 + c * 16 + 2, none⟩ (Value.slice q2 ((r.tk c).kn.length + (known r c).length) cp2)).setCell ⟨b, 290 + c * 16, none⟩ (.int .i64 1) = W0 at *
        obtain ⟨own0, R0, S0⟩ := HRS0.out
        have HS0 : Hid (RStep w own W0 own0 b x) := S0
        have HT := HTA.out W0 own0 R0
        clear R0 S0 HRS0 d1 f1 d2 f2 HCL HKW
        refine HT.mono ?_
        rintro e w1 ⟨rfl, h1⟩
        obtain ⟨o1, R1, S1⟩ := h1.out
        have t2 := (R1.tk c HC.out).st
        rw [← T_addr] at t2
        have b3 : (((r1.tk c).st : Int) == 3) = false := by have := H3.out; simpa using (by omega : ¬ ((r1.tk c).st : Int) = 3)
        have b3' : ¬ ((r1.tk c).st : Int) = 3 := by have := H3.out; omega
        have HR1 : Hid (RR w1 o1 b x r1) := R1
        have HS1 : Hid (RStep w own w1 o1 b x) := HS0.out.trans S1
        have HV1 : Hid (EVc w1 o1) := hV.out.step h.out HS1.out
        clear R1 S1 HT h1
        go_wp2_with fail
        refine (begin_w E w1 o1 b x r1 c code HC.out HR1 HV1 HCO HBG).mono ?_
        rintro e w2 ⟨rfl, h2'⟩
        obtain ⟨o2, R2, S2⟩ := h2'.out
        obtain ⟨HFU, HRS⟩ := HK1.out w2 o2 b x R2
        have HFU' : Hid _ := HFU
        have HRW := runC_w E hE w2 o2 b x (beginP E r1 c) c k HC.out HRS
        have HS2 : Hid (RStep w own w2 o2 b x) := HS1.out.trans S2
        clear R2 S2 h2' HR1 HV1 HFU HRS t2
        go_wp2_with fail
        refine HRW.mono ?_
        rintro e w3 ⟨rfl, h3'⟩
        have HR3 : Hid (RS w own b x w3 (runP E c (k + 1) (beginP E r1 c))) := RS.comp HS2.out h3'.out
        obtain ⟨o3, R3, S3⟩ := h3'.out
        have t3 := (R3.tk c HC.out).st
        have t4 := (R3.tk c HC.out).wt
        rw [← T_addr] at t3 t4
        have HF3 : Hid (runT E (beginP E r1 c) c = (runP E c (k + 1) (beginP E r1 c), ((runP E c (k + 1) (beginP E r1 c)).tk c).wt, decide (((runP E c (k + 1) (beginP E r1 c)).tk c).st = 3))) := by unfold Hid runT; rw [HFU'.out]
        clear R3 S3 h3' HRW HFU'
        generalize runP E c (k + 1) (beginP E r1 c) = F at *
        by_cases h3 : (F.tk c).st = 3
        · have H4 : Hid ((F.tk c).st = 3) := h3
          rw [h3] at t3
          go_wp2_with fail
          go_quiet (fail)
          go_wp2_with fail
          go_ret2
          rw [HF3.out]
          refine ⟨?_, HR3.out.then ⟨rfl, rfl, rfl, Nat.le_refl _, fun _ _ => rfl⟩⟩
          rw [show decide ((F.tk c).st = 3) = true from decide_eq_true H4.out]; rfl
        · have c3 : (((F.tk c).st : Int) == 3) = false := by simpa using (by omega : ¬ ((F.tk c).st : Int) = 3)
          have c3' : ¬ ((F.tk c).st : Int) = 3 := by omega
          have H4 : Hid (¬ (F.tk c).st = 3) := h3
          go_wp2_with fail
          go_quiet (fail)
          go_wp2_with fail
          go_ret2
          rw [HF3.out]
          refine ⟨?_, HR3.out.then ⟨rfl, rfl, rfl, Nat.le_refl _, fun _ _ => rfl⟩⟩
          rw [show decide ((F.tk c).st = 3) = false from decide_eq_false H4.out]; rfl
end Go.Proofs.YtiocnfambeochaaGreatDoor

/- A working out, walked: a cell's turn. -/
set_option linter.unusedVariables false
set_option linter.unusedSimpArgs false
namespace Go.Proofs.YtiocnfambeochaaGreatDoor
open Go.RowKit

/-- What the walk of a turn asks. -/
structure TurnOK (E : Env) (r : Rn) (c : Nat) : Prop where
  le : (r.tk c).st ≤ 3
  s0 : (r.tk c).st = 0 → TryOK E (freshP r c) c ∧ SW r.store ∧ (r.tk c).kn.length + (known r c).length ≤ 1000000
  s1 : (r.tk c).st = 1 → TryOK E r c
  s2 : (r.tk c).st = 2 → RunOK E r c
theorem turn_w (E : Env) (hE : RightW E) (w : World) (own : Nat → Nat) (b x : Nat) (r : Rn) (c : Nat) (hc : c < 48) (h : RR w own b x r) (hV : EVc w own) (hT : TurnOK E r c) :
    Calls Tryz.prog 115 #[.pointer (some ⟨b, 0, none⟩), .int .i64 c] w fun e w' => e = .returned (trnV (turnP E r c)) ∧ Hid (RS w own b x w' (turnP E r c).1) := by
  by_cases h0 : (r.tk c).st = 0
  · obtain ⟨q1, q2, q3⟩ := hT.s0 h0
    exact turn0 E hE w own b x r c hc h hV h0 q2 q3 q1
  by_cases h1 : (r.tk c).st = 1
  · exact turn1 E hE w own b x r c hc h hV (hT.s1 h1)
  by_cases h2 : (r.tk c).st = 2
  · exact turn2 E hE w own b x r c hc h (hT.s2 h2)
  · exact turn3 E w own b x r c hc h (show (r.tk c).st = 3 by have := hT.le; omega)
end Go.Proofs.YtiocnfambeochaaGreatDoor

/- Plain mathematics: what is known of a cell, and who is begun, grow by little a turn. -/
set_option linter.unusedVariables false
set_option linter.unusedSimpArgs false
namespace Go.Proofs.YtiocnfambeochaaGreatDoor

/-- Behind so many turns. -/
structure Cnt (n : Nat) (r : Rn) : Prop where
  kn : ∀ c, (r.tk c).kn.length ≤ 66 * n
  bg : r.bg.length ≤ n
theorem Cnt.le {n m : Nat} {r : Rn} (h : Cnt n r) (hm : n ≤ m) : Cnt m r := ⟨fun c => Nat.le_trans (h.kn c) (by omega), Nat.le_trans h.bg hm⟩
theorem Cnt.put {n : Nat} {r : Rn} (h : Cnt n r) (c : Nat) {t : Tsk} (ht : t.kn.length ≤ (r.tk c).kn.length) : Cnt n (r.put c t) := by
  refine ⟨fun i => ?_, h.bg⟩
  by_cases hi : i = c
  · subst hi; rw [put_same]; exact Nat.le_trans ht (h.kn i)
  · rw [put_ne _ _ _ hi]; exact h.kn i
theorem Cnt.settle {n : Nat} {r : Rn} (h : Cnt n r) (c : Nat) (a : Ans) : Cnt n (settle r c a) := h.put c (Nat.zero_le _)
theorem Cnt.look {E : Env} {n : Nat} {r : Rn} (h : Cnt n r) (c o : Nat) : Cnt n (look E r c o).1 := by
  unfold Go.Proofs.YtiocnfambeochaaGreatDoor.look
  split
  · exact h
  · split
    · exact h
    · exact h.put c (Nat.le_refl _)
theorem Cnt.tryR {E : Env} {n c : Nat} : ∀ (l : List Rd) (r : Rn), Cnt n r → Cnt n (tryR E c l r).1
  | [], r, h => h
  | x :: l, r, h => by
    have h1 : Cnt n (Go.Proofs.YtiocnfambeochaaGreatDoor.look E r c x.nd.c).1 := h.look c x.nd.c
    unfold Go.Proofs.YtiocnfambeochaaGreatDoor.tryR
    cases hl : Go.Proofs.YtiocnfambeochaaGreatDoor.look E r c x.nd.c with
    | mk r' o =>
      rw [hl] at h1
      cases o with
      | none => exact h1
      | some v =>
        dsimp only
        split
        · exact Cnt.tryR l _ (h1.put c (Nat.le_refl _))
        · exact h1
theorem Cnt.leave {n : Nat} {r : Rn} (h : Cnt n r) (c : Nat) : Cnt n (leaveP r c) := h.put c (Nat.le_refl _)
theorem Cnt.run {E : Env} {n c : Nat} : ∀ (k : Nat) (r : Rn), Cnt n r → Cnt n (runP E c k r)
  | 0, r, h => h
  | k + 1, r, h => by
    rw [runP]
    cases hd : (r.tk c).d [] with
    | inl v =>
      dsimp only
      exact Cnt.put (r := { r with store := r.store.add { (r.tk c).an with v := v } }) ⟨h.kn, h.bg⟩ c (Nat.zero_le _)
    | inr nd =>
      dsimp only
      have h1 : Cnt n (Go.Proofs.YtiocnfambeochaaGreatDoor.look E r c nd.c).1 := h.look c nd.c
      cases hl : Go.Proofs.YtiocnfambeochaaGreatDoor.look E r c nd.c with
      | mk r' o =>
        rw [hl] at h1
        cases o with
        | none => exact h1
        | some v =>
          dsimp only
          split
          · exact h1.settle c _
          · exact Cnt.run k _ (h1.put c (Nat.le_refl _))
theorem Cnt.fresh {n : Nat} {r : Rn} (h : Cnt n r) (hk : r.store.kept.length = 64) (c : Nat) : Cnt (n + 1) (freshP r c) := by
  have hl : (known r c).length ≤ 66 := by
    unfold known
    split
    · simp
    · rw [List.length_append]
      have h1 : (if stays r c = true then [r.last c] else []).length ≤ 1 := by split <;> simp
      have h2 : (if r.way = 2 then r.store.of (r.fs c) else []).length ≤ 64 := by
        split
        · unfold Sto.of Sto.has
          refine Nat.le_trans (List.length_filter_le _ _) ?_
          rw [List.length_take, hk]; omega
        · simp
      omega
  refine ⟨fun i => ?_, Nat.le_trans h.bg (by omega)⟩
  by_cases hi : i = c
  · subst hi
    show ((r.put i _).tk i).kn.length ≤ _
    rw [put_same]
    show ((r.tk i).kn ++ known r i).length ≤ _
    rw [List.length_append]
    have := h.kn i
    omega
  · show ((r.put c _).tk i).kn.length ≤ _
    rw [put_ne _ _ _ hi]
    have := h.kn i
    omega
theorem Cnt.tryK {E : Env} {n c : Nat} : ∀ (l : List Ans) (r : Rn), Cnt n r → l.length ≤ 66 * n → Cnt n (tryK E c l r).1
  | [], r, h, _ => h
  | a :: l, r, h, hl => by
    have h1 : Cnt n (Go.Proofs.YtiocnfambeochaaGreatDoor.tryR E c (a.rs.drop (r.tk c).held) r).1 := Cnt.tryR _ r h
    unfold Go.Proofs.YtiocnfambeochaaGreatDoor.tryK
    cases ht : Go.Proofs.YtiocnfambeochaaGreatDoor.tryR E c (a.rs.drop (r.tk c).held) r with
    | mk r' o =>
      rw [ht] at h1
      rw [List.length_cons] at hl
      cases o with
      | none => exact h1
      | some B =>
        cases B with
        | true => exact h1.settle c a
        | false =>
          dsimp only
          refine Cnt.tryK l _ ⟨fun i => ?_, h1.bg⟩ (by omega)
          by_cases hi : i = c
          · subst hi; rw [put_same]; show l.length ≤ _; omega
          · rw [put_ne _ _ _ hi]; exact h1.kn i
theorem Cnt.tryT {E : Env} {n c : Nat} {r : Rn} (h : Cnt n r) : Cnt (n + 1) (tryT E r c).1 := by
  have h1 : Cnt n (Go.Proofs.YtiocnfambeochaaGreatDoor.tryK E c (r.tk c).kn r).1 := Cnt.tryK _ r h (h.kn c)
  unfold Go.Proofs.YtiocnfambeochaaGreatDoor.tryT
  cases ht : Go.Proofs.YtiocnfambeochaaGreatDoor.tryK E c (r.tk c).kn r with
  | mk r' B =>
    rw [ht] at h1
    cases B with
    | false => exact h1.le (by omega)
    | true =>
      dsimp only
      split
      · exact h1.le (by omega)
      · refine Cnt.run _ _ ⟨fun i => ?_, ?_⟩
        · show ((r'.put c _).tk i).kn.length ≤ _
          have : (r'.tk i).kn.length ≤ 66 * n := h1.kn i
          by_cases hi : i = c
          · subst hi; rw [put_same]; show (r'.tk i).kn.length ≤ _; omega
          · rw [put_ne _ _ _ hi]; omega
        · show (r'.bg ++ [c]).length ≤ _
          rw [List.length_append]
          have : r'.bg.length ≤ n := h1.bg
          simp; omega
theorem Cnt.turn {E : Env} {n c : Nat} {r : Rn} (h : Cnt n r) (hk : r.store.kept.length = 64) : Cnt (n + 2) (turnP E r c).1 := by
  unfold turnP
  split
  · exact Cnt.tryT (h.fresh hk c)
  · split
    · exact (Cnt.tryT h).le (by omega)
    · split
      · exact (Cnt.run _ _ h).le (by omega)
      · exact h.le (by omega)
end Go.Proofs.YtiocnfambeochaaGreatDoor

/- What stays true of a working out gives what the walk of a turn asks. -/
set_option linter.unusedVariables false
set_option linter.unusedSimpArgs false
namespace Go.Proofs.YtiocnfambeochaaGreatDoor

/-- The formulas are compiled. -/
structure EnvF (E : Env) (fs : Nat → ByteArray) : Prop where
  fml : ∀ c, fs c ≠ eB → ∃ code, FmlOK E (fs c) code
  small : ∀ c, fs c ≠ eB → E.B (fs c) ≤ 90000
section
variable {E : Env} {val : Nat → V} {S0 : Con} {Cl : Nat → Prop} {X : Nat → Ans → Prop} {r : Rn} {cs : List Nat} {c n : Nat}
theorem Inv.wtOK (h : Inv E val S0 Cl X r cs) : WtOK r := ⟨h.ends, fun c => ⟨(h.wt c).1, by
  by_cases h0 : 0 ≤ (r.tk c).wt
  · have := ((h.wt c).2 h0).2; omega
  · omega⟩⟩
theorem Inv.sval (h : Inv E val S0 Cl X r cs) : SVal r := fun o ho => by
  rw [(h.sett o ho).v]
  by_cases hv : val o = cyc
  · exact .inl hv
  · exact .inr ((h.hv o).ok h.Fit hv)
theorem Inv.runOK (h : Inv E val S0 Cl X r cs) (hF : EnvF E r.fs) (h2 : (r.tk c).st = 2) : RunOK E r c := by
  have hu := h.uns c (by rw [h2]; decide)
  obtain ⟨g1, g2, g3, g4, g5, g6⟩ := hu.run h2
  obtain ⟨q1, q2⟩ := act_left (r.tk c).an.rs _ _ (h.fit c hu.f) g2 (fun x hx => by
    obtain ⟨w1, w2⟩ := g3 x hx
    rw [w1]; exact okv_see ((h.hv _).ok h.Fit w2))
  have := hF.small c hu.f
  exact { wt := h.wtOK, st := h.st, s2 := h2, act := ⟨_, Nat.sub_le _ _, by rw [g4]; exact q2, by omega⟩, val := h.sval, sw := h.sw }
theorem Inv.knOK (h : Inv E val S0 Cl X r cs) (h3 : (r.tk c).st ≠ 3) : KnOK (r.tk c).kn := fun a ha x hx => (((h.uns c h3).kn a ha).1.2.2.2 x hx).2
theorem Inv.tryOK (hW : RightW E) (hX : ∀ c a, X c a → Hold val a.rs) (h : Inv E val S0 Cl X r cs) (hF : EnvF E r.fs) (h1 : (r.tk c).st = 1) (hb : r.bg.length ≤ 100000) : TryOK E r c := by
  have h3 : (r.tk c).st ≠ 3 := by rw [h1]; decide
  refine { wt := h.wtOK, st := h.st, s1 := h1, kn := h.knOK h3, go := fun ht hs => ?_ }
  obtain ⟨r', i1, i2, i3, i4, i5⟩ := tryK_ok hW hX (r.tk c).kn r h h1 rfl
  rcases i5 with ⟨e, _⟩ | ⟨e, e3⟩ | ⟨e, e1, ek, _⟩
  · rw [e] at ht; cases ht
  · rw [e] at hs; exact absurd e3 hs
  · rw [e]
    dsimp only
    have hfs : r'.fs = r.fs := i2.fs
    obtain ⟨b1, b2⟩ := begin_ok i1 e1 ek (fun a ha => by
      have := (i1.x c a ha).2.2 e1
      rw [ek] at this
      cases this)
    have hf : r.fs c ≠ eB := (h.uns c h3).f
    refine ⟨by rw [hfs]; exact hF.fml c hf, b1.runOK (by show EnvF E r'.fs; rw [hfs]; exact hF) b2, by rw [i3]; exact hb⟩
theorem Inv.turnOK (hW : RightW E) (hX : XK E val S0 Cl X) (h : Inv E val S0 Cl X r cs) (hF : EnvF E r.fs) (hC : Cnt n r) (hn : n ≤ 10000) : TurnOK E r c := by
  have hX' : ∀ c a, X c a → Hold val a.rs := fun c a ha => (hX r cs h c a ha).1
  have hb : r.bg.length ≤ 100000 := Nat.le_trans hC.bg (by omega)
  refine { le := h.st c, s0 := fun h0 => ?_, s1 := fun h1 => h.tryOK hW hX' hF h1 hb, s2 := fun h2 => h.runOK hF h2 }
  have h1 := fresh_ok hX h h0
  have hq := (hC.fresh h.sw.len c).kn c
  have e1 : ((freshP r c).tk c) = { r.tk c with kn := (r.tk c).kn ++ known r c, st := 1 } := put_same _ _ _
  rw [e1] at hq
  dsimp only at hq
  rw [List.length_append] at hq
  exact ⟨h1.tryOK hW hX' hF (by rw [e1]) hb, h.sw, by omega⟩
end
end Go.Proofs.YtiocnfambeochaaGreatDoor

/- A working out, walked: waitsStill. -/
set_option linter.unusedVariables false
set_option linter.unusedSimpArgs false
namespace Go.Proofs.YtiocnfambeochaaGreatDoor
open Go.RowKit

set_option maxRecDepth 100000 in
set_option maxHeartbeats 4000000 in
theorem still_w (w : World) (own : Nat → Nat) (b x : Nat) (r : Rn) (c : Nat) (hc : c < 48) (h : Hid (RR w own b x r)) (hW : Hid (WtOK r)) :
    Calls Tryz.prog 118 #[.pointer (some ⟨b, 0, none⟩), .int .i64 c] w fun e w' => e = .returned (.bool (stillB r c)) ∧ Below w.heap.size w w' := by
  have hci : (c : Int) < 48 := by omega
  have hc0 : 0 ≤ (c : Int) := by omega
  have s1 := (h.out.tk c hc).wt
  rw [← T_addr] at s1
  have hr := hW.out.rng c
  have HS : Hid (stillB r c = (decide ((r.tk c).wt ≠ -1) && decide ((r.tk (r.tk c).wt.toNat).st ≠ 3))) := rfl
  by_cases hw : (r.tk c).wt = -1
  · have HS' : Hid (stillB r c = false) := by unfold Hid; rw [HS.out, decide_eq_false (by simpa using hw)]; rfl
    rw [hw] at s1
    clear HS hr hw
    go_enter Tryz.func118, Tryz.ntmps118
    go_wp2_with fail
    go_ret
    rw [HS'.out]
    exact ⟨rfl, ⟨rfl, rfl, rfl, Nat.le_refl _, fun _ _ => rfl⟩⟩
  · obtain ⟨o, ho⟩ : ∃ o : Nat, (r.tk c).wt = o := ⟨(r.tk c).wt.toNat, by omega⟩
    have ho48 : o < 48 := by omega
    rw [ho] at s1 HS
    have s2 := (h.out.tk o ho48).st
    rw [← T_addr] at s2
    have hoi : (o : Int) < 48 := by omega
    have ho0 : 0 ≤ (o : Int) := by omega
    have bo : ((o : Int) != -1) = true := by first | (simp; done) | (simp; omega)
    have bo' : ¬ (o : Int) = -1 := by omega
    have bod : decide ((o : Int) = -1) = false := decide_eq_false bo'
    have HS' : Hid (stillB r c = decide ((r.tk o).st ≠ 3)) := by unfold Hid; rw [HS.out, Int.toNat_natCast, decide_eq_true bo']; rfl
    clear HS hr hw ho
    by_cases h3 : (r.tk o).st = 3
    · have H3 : Hid ((r.tk o).st = 3) := h3
      rw [h3] at s2
      go_enter Tryz.func118, Tryz.ntmps118
      go_wp2_with fail
      go_ret
      rw [HS'.out, decide_eq_false (by simpa using H3.out)]
      exact ⟨rfl, ⟨rfl, rfl, rfl, Nat.le_refl _, fun _ _ => rfl⟩⟩
    · have H3 : Hid (¬ (r.tk o).st = 3) := h3
      have b3 : (((r.tk o).st : Int) != 3) = true := by first | (simp; done) | (simp; omega)
      have b3' : ¬ ((r.tk o).st : Int) = 3 := by omega
      go_enter Tryz.func118, Tryz.ntmps118
      go_wp2_with fail
      go_ret
      rw [HS'.out, decide_eq_true (show (r.tk o).st ≠ 3 from H3.out)]
      exact ⟨rfl, ⟨rfl, rfl, rfl, Nat.le_refl _, fun _ _ => rfl⟩⟩
end Go.Proofs.YtiocnfambeochaaGreatDoor
