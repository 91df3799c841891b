/- Texts put together. -/
import Derived.Test.YtiocnfambeochaaGreatDoorQ23
import Derived.Deep.RegionWith
/- The machine in memory: Run. -/
set_option linter.unusedVariables false
set_option linter.unusedSimpArgs false
namespace Go.Proofs.YtiocnfambeochaaGreatDoor
open Go.RowKit

/-- How a machine stands when Run is over: it is done, or reads. -/
def stF (o : Option Nd) : Nat := match o with | none => 2 | some _ => 1
theorem insC_len (i : Ins) : (insC i).length = 6 := rfl
theorem MR.codeLen {w : World} {own : Nat → Nat} {b o cv cg st : Nat} {m : Mc} {nd : Nd} (h : MR w own b o cv cg m st nd) : ∃ q cp, w.cell? ⟨b, o, none⟩ = some (.slice q m.code.length cp) := by
  obtain ⟨v, h1, h2⟩ := h.code
  obtain ⟨q, cp, rfl⟩ := h2.sl.len
  exact ⟨q, cp, h1⟩
theorem MR.gdLen {w : World} {own : Nat → Nat} {b o cv cg st : Nat} {m : Mc} {nd : Nd} (h : MR w own b o cv cg m st nd) : ∃ q cp, w.cell? ⟨b, o + 6, none⟩ = some (.slice q m.gd.length cp) := by
  obtain ⟨v, h1, h2⟩ := h.gds
  obtain ⟨q, cp, rfl⟩ := h2.sl.len
  exact ⟨q, cp, h1⟩
/-- The instruction at a place. -/
theorem MR.ins {w : World} {own : Nat → Nat} {b o cv cg st : Nat} {m : Mc} {nd : Nd} (h : MR w own b o cv cg m st nd) {j : Nat} {i : Ins} (hi : m.code[j]? = some i) : ∃ g p cp, w.cell? ⟨b, o, none⟩ = some (.slice (some ⟨g, p, none⟩) m.code.length cp) ∧ m.code.length ≤ cp ∧
    w.cell? ⟨g, p + j * 6, none⟩ = some (.int .i64 i.op) ∧ w.cell? ⟨g, p + j * 6 + 1, none⟩ = some (.int .i64 i.v.k) ∧ w.cell? ⟨g, p + j * 6 + 2, none⟩ = some (.int .i64 i.v.n) ∧ w.cell? ⟨g, p + j * 6 + 3, none⟩ = some (.string i.v.s) ∧ w.cell? ⟨g, p + j * 6 + 4, none⟩ = some (.int .i64 i.cell) ∧ w.cell? ⟨g, p + j * 6 + 5, none⟩ = some (.int .i64 i.to) := by
  obtain ⟨v, h1, h2⟩ := h.code
  have hl := (List.getElem?_eq_some_iff.1 hi).1
  obtain ⟨g, p, cp, rfl, hc⟩ := h2.sl.at (by omega)
  have f := fun t u hu => h2.sl.cell _ _ (flat3_get insC_len m.code j i t u hi hu)
  refine ⟨g, p, cp, h1, hc, f 0 _ rfl, ?_, ?_, ?_, ?_, ?_⟩
  · rw [Nat.add_assoc]; exact f 1 _ rfl
  · rw [Nat.add_assoc]; exact f 2 _ rfl
  · rw [Nat.add_assoc]; exact f 3 _ rfl
  · rw [Nat.add_assoc]; exact f 4 _ rfl
  · rw [Nat.add_assoc]; exact f 5 _ rfl
theorem goM_cases {f : Nat} {m mf : Mc} {out : Option Nd} (h : goM f m = some (mf, out)) : ∃ f', f = f' + 1 ∧ (headM m = some (.inr (mf, out)) ∨ ∃ m', headM m = some (.inl m') ∧ goM f' m' = some (mf, out)) := by
  cases f with
  | zero => cases h
  | succ f =>
    refine ⟨f, rfl, ?_⟩
    rw [goM] at h
    cases hh : headM m with
    | none => rw [hh] at h; cases h
    | some x =>
      rw [hh] at h
      cases x with
      | inl m' => exact .inr ⟨m', rfl, h⟩
      | inr x => cases h; exact .inl rfl
/-- At the end of its instructions it is done. -/
theorem goM_end {f : Nat} {m mf : Mc} {out : Option Nd} (h : goM f m = some (mf, out)) (hf : failB m = false) (he : m.at' = m.code.length) : mf = m ∧ out = none := by
  obtain ⟨f', _, h⟩ := goM_cases h
  have e : headM m = some (.inr (m, none)) := by
    unfold headM
    rw [if_neg (by rw [hf]; decide), List.getElem?_eq_none (by omega)]
    simp only
    rw [if_pos he]
  rw [e] at h
  rcases h with h | ⟨m', h, _⟩
  · cases h; exact ⟨rfl, rfl⟩
  · cases h
theorem goM_step {f : Nat} {m mf : Mc} {out : Option Nd} {i : Ins} (h : goM f m = some (mf, out)) (hf : failB m = false) (hi : m.code[m.at']? = some i) : ∃ f', f = f' + 1 ∧ ∃ m' o, stepM m i = some (m', o) ∧ ((o = none ∧ goM f' m' = some (mf, out)) ∨ (∃ nd, o = some nd ∧ mf = m' ∧ out = some nd)) := by
  obtain ⟨f', hf', h⟩ := goM_cases h
  refine ⟨f', hf', ?_⟩
  have e : headM m = match stepM m i with | none => none | some (m', none) => some (.inl m') | some (m', some nd) => some (.inr (m', some nd)) := by
    unfold headM
    rw [if_neg (by rw [hf]; decide), hi]
    rfl
  rw [e] at h
  cases hs : stepM m i with
  | none => rw [hs] at h; rcases h with h | ⟨m', h, _⟩ <;> cases h
  | some x =>
    obtain ⟨m', o⟩ := x
    rw [hs] at h
    refine ⟨m', o, rfl, ?_⟩
    cases o with
    | none =>
      rcases h with h | ⟨m2, h, h2⟩
      · cases h
      · cases h; exact .inl ⟨rfl, h2⟩
    | some nd =>
      rcases h with h | ⟨m2, h, h2⟩
      · cases h; exact .inr ⟨nd, rfl, rfl, rfl⟩
      · cases h
theorem goM_fail {f : Nat} {m mf : Mc} {out : Option Nd} (h : goM f m = some (mf, out)) (hf : failB m = true) : ∃ f', f = f' + 1 ∧ ((m.gd = [] ∧ mf = m ∧ out = none) ∨ ∃ gl t hh, m.gd = gl ++ [(t, hh)] ∧ hh ≤ m.vals.length ∧ 0 < m.vals.length ∧ goM f' ⟨m.code, t, m.vals.take hh ++ [vB true], gl⟩ = some (mf, out)) := by
  obtain ⟨f', hf', h⟩ := goM_cases h
  refine ⟨f', hf', ?_⟩
  have h0 : 0 < m.vals.length := by
    unfold failB at hf
    cases hv : m.vals with
    | nil => rw [hv] at hf; cases hf
    | cons a l => simp
  unfold headM at h
  rw [if_pos hf] at h
  cases hg : m.gd.getLast? with
  | none =>
    rw [hg] at h
    rcases h with h | ⟨m2, h, h2⟩
    · cases h; exact .inl ⟨List.getLast?_eq_none_iff.1 hg, rfl, rfl⟩
    · cases h
  | some g =>
    rw [hg] at h
    dsimp only at h
    by_cases hl : g.2 ≤ m.vals.length
    · rw [if_pos hl] at h
      rcases h with h | ⟨m2, h, h2⟩
      · cases h
      · cases h
        exact .inr ⟨m.gd.dropLast, g.1, g.2, last_split hg, hl, h0, h2⟩
    · rw [if_neg hl] at h
      rcases h with h | ⟨m2, h, h2⟩ <;> cases h
theorem setSt {w : World} {own : Nat → Nat} {b o cv cg st : Nat} {m : Mc} {nd : Nd} (h : MR w own b o cv cg m st nd) (hC : Cols cv cg) (q : Int) (s : Nat) (hq : q = s) : MStep w own b o cv cg (w.setCell ⟨b, o + 2, none⟩ (.int .i64 q)) m s nd := by
  subst hq
  have hB := h.blk
  exact MStep.state (p := m.at') h hC ((Chg.refl _ _ _ _ _ _).put (by omega) (by omega) _) (by rw [hB.coff (by omega)]; exact h.at') (hB.cset (by omega) _) (by rw [hB.coff (by omega)]; exact h.nc) (by rw [hB.coff (by omega)]; exact h.na)
/-- What holds at the labels. -/
structure RunJ (w : World) (own : Nat → Nat) (b o cv cg : Nat) (mf : Mc) (out : Option Nd) (nd : Nd) (n l : Nat) (a : Act) (w' : World) : Prop where
  sz : a.tmps.size = 50
  p : a.tmps.toList.getD 0 undef = .pointer (some ⟨b, o, none⟩)
  df : a.defers = []
  ex : ∃ own' m st nd', (∀ k, k < w.heap.size → own' k = own k) ∧ Chg own (mC cv cg) b o (o + 7) w w' ∧ MR w' own' b o cv cg m st nd' ∧
    ((l = 0 ∧ st = 0 ∧ nd' = nd ∧ MI m ∧ ∃ f, n = 2 * f + 1 ∧ goM f m = some (mf, out)) ∨ (l = 1 ∧ st = 0 ∧ nd' = nd ∧ MI m ∧ failB m = true ∧ ∃ f, n = 2 * f ∧ goM f m = some (mf, out)) ∨
      (l = 0 ∧ n = 0 ∧ st = stF out ∧ m = mf ∧ nd' = out.getD nd ∧ MI m ∧ (out ≠ none → m.vals.length < m.at')))
set_option maxRecDepth 100000 in
set_option maxHeartbeats 4000000 in
theorem run_w (w : World) (own : Nat → Nat) (b o cv cg : Nat) (m : Mc) (nd : Nd) (f : Nat) (mf : Mc) (out : Option Nd) (hC : Hid (Cols cv cg)) (hM : Hid (MR w own b o cv cg m 0 nd)) (hI : Hid (MI m)) (hg : Hid (goM f m = some (mf, out))) :
    Calls Tryz.prog 175 #[.pointer (some ⟨b, o, none⟩)] w fun e w' => e = .returned (.int .i64 (stF out)) ∧ Hid (MStep w own b o cv cg w' mf (stF out) (out.getD nd) ∧ MI mf ∧ (out ≠ none → mf.vals.length < mf.at')) := by
  go_enter Tryz.func175, Tryz.ntmps175
  go_wp2_with fail
  have open' : ∀ n l a w1, RunJ w own b o cv cg mf out nd n l a w1 → ∃ u : Nat → Value, u 0 = .pointer (some ⟨b, o, none⟩) ∧ a = ⟨#[u 0, u 1, u 2, u 3, u 4, u 5, u 6, u 7, u 8, u 9, u 10, u 11, u 12, u 13, u 14, u 15, u 16, u 17, u 18, u 19, u 20, u 21, u 22, u 23, u 24, u 25, u 26, u 27, u 28, u 29, u 30, u 31, u 32, u 33, u 34, u 35, u 36, u 37, u 38, u 39, u 40, u 41, u 42, u 43, u 44, u 45, u 46, u 47, u 48, u 49], []⟩ := by
    intro n l a w1 h
    refine ⟨fun i => a.tmps.toList.getD i undef, h.p, ?_⟩
    have := tmps_of h.sz h.df
    exact this
  refine wp_scope_at 0 (2 * f + 1) (RunJ w own b o cv cg mf out nd) ⟨rfl, rfl, rfl, own, m, 0, nd, fun _ _ => rfl, Chg.refl _ _ _ _ _ _, hM.out, .inl ⟨rfl, rfl, rfl, hI.out, f, rfl, hg.out⟩⟩ ?_ ?_
  · intro n a w1 hJ
    obtain ⟨u, hu0, rfl⟩ := open' _ _ _ _ hJ
    obtain ⟨_, _, _, own1, m1, st1, nd1, e1, g1, M1, hcase⟩ := hJ
    rw [hu0]
    have HE : Hid _ := e1
    have HG : Hid _ := g1
    have HM : Hid _ := M1
    clear e1 g1 hu0
    have hst := M1.st
    rcases hcase with ⟨_, rfl, rfl, hI1, f1, rfl, hg1⟩ | ⟨hh, _⟩ | ⟨_, rfl, rfl, rfl, rfl, hI1, hlt⟩
    · go_wp2_with fail
      refine (failed_w _ own1 b o cv cg m1 0 nd1 HM).mono ?_
      rintro e w2 ⟨rfl, hb2⟩
      have M2 : MR w2 own1 b o cv cg m1 0 nd1 := M1.below hb2 (fun _ _ => rfl)
      have HM2 : Hid _ := M2
      have HG2 : Hid (Chg own (mC cv cg) b o (o + 7) w w2) := HG.out.trans (own' := own1) (Chg.below hb2 M1.blk.lt) HE.out
      have HI1 : Hid _ := hI1
      have HGO : Hid _ := hg1
      clear M1 hb2 HM HG hI1 hg1 hst
      by_cases hfa : failB m1 = true
      · have HFA : Hid _ := hfa
        clear M2
        go_wp2_with fail
        go_step3
        exact ⟨2 * f1, by omega, rfl, rfl, rfl, own1, m1, 0, nd1, HE.out, HG2.out, HM2.out, .inr (.inl ⟨rfl, rfl, rfl, HI1.out, HFA.out, f1, rfl, HGO.out⟩)⟩
      · have hfa' : failB m1 = false := by simpa using hfa
        have HFA : Hid _ := hfa'
        obtain ⟨q, cp, hcode⟩ := M2.codeLen
        have hat := M2.at'
        by_cases he : m1.at' = m1.code.length
        · have he' : ((m1.at' : Int) == (m1.code.length : Int)) = true := by simp; omega
          obtain ⟨rfl, rfl⟩ := goM_end HGO.out hfa' he
          have hst2 := M2.st
          have hf2 := M2.blk.frozen (o + 2)
          clear M2 he hfa
          go_wp2_with fail
          go_region
          all_goals
            go_wp2_with fail
            go_step3
            obtain ⟨own2, e2, M3, g3⟩ := ((setSt HM2.out hC.out 2 2 rfl).then (Below.refl _ _).drew)
            exact ⟨0, by omega, rfl, rfl, rfl, own2, mf, 2, nd1, fun k hk => (e2 k (Nat.lt_of_lt_of_le hk HG2.out.size)).trans (HE.out k hk), HG2.out.trans g3 HE.out, M3, .inr (.inr ⟨rfl, rfl, rfl, rfl, rfl, HI1.out, fun h => absurd rfl h⟩)⟩
        · have he' : ((m1.at' : Int) == (m1.code.length : Int)) = false := by simp; omega
          have hlt : m1.at' < m1.code.length := by have := HI1.out.at'; omega
          obtain ⟨i, hi⟩ : ∃ i, m1.code[m1.at']? = some i := ⟨_, List.getElem?_eq_getElem hlt⟩
          obtain ⟨f2, rfl, m2, o2, hs2, hcase2⟩ := goM_step HGO.out hfa' hi
          have HIN : Hid _ := hi
          have HS2 : Hid _ := hs2
          have HC2 : Hid _ := hcase2
          obtain ⟨g, p, cp', hcode', hle, c0, c1, c2, c3, c4, c5⟩ := M2.ins hi
          rw [hcode] at hcode'
          cases hcode'
          have hlti : (m1.at' : Int) < (m1.code.length : Int) := by omega
          have hge : 0 ≤ (m1.at' : Int) := by omega
          clear M2 he hfa hi hs2 hcase2 hle
          go_wp2_with fail
          go_region
          all_goals
            go_wp2_with fail
            go_region_with ((go_at_call 201; refine (step_all _ own1 b o cv cg m1 nd1 i m2 o2 hC.out (HM2.out.below ((Below.refl _ _).drew.drew) (fun _ _ => rfl)) HI1.out HIN.out HS2.out).mono ?_; rintro e w3 ⟨rfl, h3⟩))
          all_goals
            go_wp2_with fail
            go_step3
            obtain ⟨own3, e3, M3, g3⟩ := h3.out
            have G3 : Chg own (mC cv cg) b o (o + 7) w w3 := HG2.out.drew.drew.trans g3 HE.out
            have E3 : ∀ k, k < w.heap.size → own3 k = own k := fun k hk => (e3 k (Nat.lt_of_lt_of_le hk HG2.out.size)).trans (HE.out k hk)
            obtain ⟨I2, _, l2, _⟩ := HI1.out.step HIN.out HS2.out
            rcases HC2.out with ⟨rfl, hgo⟩ | ⟨nd2, rfl, rfl, rfl⟩
            · exact ⟨2 * f2 + 1, by omega, rfl, rfl, rfl, own3, m2, 0, nd1, E3, G3, M3, .inl ⟨rfl, rfl, rfl, I2, f2, rfl, hgo⟩⟩
            · exact ⟨0, by omega, rfl, rfl, rfl, own3, _, 1, nd2, E3, G3, M3, .inr (.inr ⟨rfl, rfl, rfl, rfl, rfl, I2, l2⟩)⟩
    · cases hh
    · have hne : ((stF out : Int) != 0) = true := by cases out <;> rfl
      have HI1 : Hid _ := hI1
      have HLT : Hid _ := hlt
      clear M1 hI1 hlt
      go_wp2_with fail
      rw [jumps_ret]
      go_ret
      exact ⟨rfl, ⟨own1, HE.out, HM.out, HG.out⟩, HI1.out, HLT.out⟩
  · intro n l a w1 hl hJ
    obtain ⟨u, hu0, rfl⟩ := open' _ _ _ _ hJ
    obtain ⟨_, _, _, own1, m1, st1, nd1, e1, g1, M1, hcase⟩ := hJ
    rw [hu0]
    have HE : Hid _ := e1
    have HG : Hid _ := g1
    have HM : Hid _ := M1
    clear e1 g1 hu0
    rcases hcase with ⟨hh, _⟩ | ⟨rfl, rfl, rfl, hI1, hfa, f1, rfl, hg1⟩ | ⟨hh, _⟩
    · exact absurd hh hl
    · refine ⟨_, rfl, ?_⟩
      obtain ⟨q, cp, hgd⟩ := M1.gdLen
      obtain ⟨f2, rfl, ⟨g0, rfl, rfl⟩ | ⟨gl, t, hh, g0, hle, h0, hgo⟩⟩ := goM_fail hg1 hfa
      · rw [g0] at hgd
        have hst := M1.st
        have hf2 := M1.blk.frozen (o + 2)
        have HI1 : Hid _ := hI1
        clear M1 hI1 hg1 hfa hl g0
        go_wp2_with fail
        go_step3
        obtain ⟨own2, e2, M3, g3⟩ := setSt HM.out hC.out 2 2 rfl
        exact ⟨0, by omega, rfl, rfl, rfl, own2, mf, 2, nd1, fun k hk => (e2 k (Nat.lt_of_lt_of_le hk HG.out.size)).trans (HE.out k hk), HG.out.trans g3 HE.out, M3, .inr (.inr ⟨rfl, rfl, rfl, rfl, rfl, HI1.out, fun h => absurd rfl h⟩)⟩
      · have hn : m1.vals.length ≤ 100000 := by have := hI1.len; have := hI1.at'; have := hI1.small; omega
        have hne : ((m1.gd.length : Int) == 0) = false := by rw [g0]; simp; omega
        have H0 : Hid (0 < m1.vals.length) := h0
        have HLE : Hid (hh ≤ m1.vals.length) := hle
        have HGD : Hid _ := g0
        have HN : Hid _ := hn
        have HGO : Hid _ := hgo
        have HI1 : Hid _ := hI1
        clear M1 hI1 hg1 hfa hl g0 hle h0 hgo hn
        go_wp2_with fail
        refine (rescue_w _ own1 b o cv cg m1 0 nd1 gl t hh hC HM HGD HLE.out H0.out HN).mono ?_
        rintro e w3 ⟨rfl, h3⟩
        go_wp2_with fail
        go_step3
        obtain ⟨own3, e3, M3, g3⟩ := h3.out
        have I2 := HI1.out.rescue (g := (t, hh)) (by rw [HGD.out]; simp) HLE.out
        have hdl : m1.gd.dropLast = gl := by rw [HGD.out]; simp
        rw [hdl] at I2
        exact ⟨2 * f2 + 1, by omega, rfl, rfl, rfl, own3, _, 0, nd1, fun k hk => (e3 k (Nat.lt_of_lt_of_le hk HG.out.size)).trans (HE.out k hk), HG.out.trans g3 HE.out, M3, .inl ⟨rfl, rfl, rfl, I2, f2, rfl, HGO.out⟩⟩
    · exact absurd hh hl
end Go.Proofs.YtiocnfambeochaaGreatDoor

/- The machine in memory: See, Need, Worth, Give. -/
set_option linter.unusedVariables false
set_option linter.unusedSimpArgs false
namespace Go.Proofs.YtiocnfambeochaaGreatDoor
open Go.RowKit

set_option maxHeartbeats 2000000 in
theorem see_w (nd : Nd) (v : V) : Gives 178 #[.agg #[.int .i64 nd.c, .bool nd.a], vV v] (vV (see nd v)) := by
  intro w
  unfold vV
  by_cases h0 : v.k = 0
  · have h0' : (v.k == 0) = true := by simpa using h0
    cases ha : nd.a with
    | true =>
      have HF : Hid (see nd v = v) := by unfold Hid see; rw [if_neg (by rw [ha]; simp)]
      go_enter Tryz.func178, Tryz.ntmps178
      go_wp2
      go_returns
      rw [HF.out]
      exact ⟨by first | rfl | rw [h0], by repeat (first | exact Below.refl _ _ | refine bal ?_ _)⟩
    | false =>
      have HF : Hid (see nd v = vI 0) := by unfold Hid see; rw [if_pos ⟨h0, ha⟩]
      go_enter Tryz.func178, Tryz.ntmps178
      go_wp2
      go_returns
      rw [HF.out]
      exact ⟨rfl, by repeat (first | exact Below.refl _ _ | refine bal ?_ _)⟩
  · have h0' : (v.k == 0) = false := by simpa using h0
    have HF : Hid (see nd v = v) := by unfold Hid see; rw [if_neg (fun h => h0 h.1)]
    go_enter Tryz.func178, Tryz.ntmps178
    go_wp2
    go_returns
    rw [HF.out]
    exact ⟨rfl, by repeat (first | exact Below.refl _ _ | refine bal ?_ _)⟩
set_option maxRecDepth 100000 in
set_option maxHeartbeats 2000000 in
theorem need_w (w : World) (own : Nat → Nat) (b o cv cg : Nat) (m : Mc) (st : Nat) (nd : Nd) (hM : Hid (MR w own b o cv cg m st nd)) :
    Calls Tryz.prog 176 #[.pointer (some ⟨b, o, none⟩)] w fun e w' => e = .returned (.agg #[.int .i64 nd.c, .bool nd.a]) ∧ Below w.heap.size w w' := by
  have h1 := al hM.out.nc
  have h2 := al hM.out.na
  go_enter Tryz.func176, Tryz.ntmps176
  go_wp2_with fail
  go_returns
  exact ⟨rfl, bl1 _ _⟩
set_option maxRecDepth 100000 in
set_option maxHeartbeats 2000000 in
theorem worth_w (w : World) (own : Nat → Nat) (b o cv cg : Nat) (m : Mc) (st : Nat) (nd : Nd) (l : List V) (y : V) (hM : Hid (MR w own b o cv cg m st nd)) (hl : Hid (m.vals = l ++ [y])) :
    Calls Tryz.prog 180 #[.pointer (some ⟨b, o, none⟩)] w fun e w' => e = .returned (vV y) ∧ Below w.heap.size w w' := by
  go_enter Tryz.func180, Tryz.ntmps180
  go_wp2_with fail
  have hM1 : MR (w.alloc (Obj.cells #[Value.int IntKind.i64 0, Value.int IntKind.i64 0, Value.string ⟨#[]⟩] 52)) own b o cv cg m st nd := hM.out.below (bl1 _ _) (fun _ _ => rfl)
  refine (top_w _ own b o cv l y (by have := hM1.vals; rw [hl.out] at this; exact this)).mono ?_
  rintro e w1 ⟨rfl, hb1⟩
  have HR : Hid (w1.heap[w.heap.size]? = some (.cells #[.int .i64 0, .int .i64 0, .string ⟨#[]⟩] 52 (0, 0))) := by
    unfold Hid; rw [hb1.block _ (by simp)]; exact rnew w _ _
  obtain ⟨z0, z1, z2, z3, z4, z5⟩ := box3 rfl HR.out
  have HB : Hid (Below w.heap.size w w1) := (bl1 w _).trans (hb1.mono (by simp))
  clear hb1 hM1
  unfold vV
  go_wp2_with fail
  refine bodyPost_ret (results_cell1 rfl _ _ _ ⟨w.heap.size, 0, none⟩ _ _ rfl (load52 (rset (rset (rset HR.out))) rfl)) rfl ?_
  exact ⟨rfl, by repeat (first | exact HB.out | refine Below.setCell ?_ (by dsimp only; omega) _)⟩
set_option maxRecDepth 100000 in
set_option maxHeartbeats 2000000 in
theorem give_w (w : World) (own : Nat → Nat) (b o cv cg : Nat) (m : Mc) (st : Nat) (nd : Nd) (v : V) (hC : Hid (Cols cv cg)) (hM : Hid (MR w own b o cv cg m st nd)) (hn : Hid (m.vals.length ≤ 100000)) :
    Calls Tryz.prog 179 #[.pointer (some ⟨b, o, none⟩), vV v] w fun e w' => e = .returned (.tuple #[]) ∧ Hid (MStep w own b o cv cg w' (m.push (see nd v)) 0 nd) := by
  have HS : Hid (Gives 178 #[.agg #[.int .i64 nd.c, .bool nd.a], vV v] (vV (see nd v))) := see_w nd v
  obtain ⟨r, hr⟩ : ∃ r, see nd v = r := ⟨_, rfl⟩
  rw [hr] at HS ⊢
  clear hr
  have h1 := al hM.out.nc
  have h2 := al hM.out.na
  have h1' := hM.out.nc
  have h2' := hM.out.na
  have hb := hM.out.blk.lt
  have HM1 : Hid (∀ z, MR (w.alloc z).drew own b o cv cg m st nd) := fun z => hM.out.below (bl1 _ _).drew (fun _ _ => rfl)
  have HB1 : Hid (∀ z, Below w.heap.size w (w.alloc z).drew) := fun z => (bl1 _ _).drew
  unfold vV at HS ⊢
  go_enter Tryz.func179, Tryz.ntmps179
  go_wp2_with fail
  go_region_with (first
    | (go_at_call 178; refine (HS.out _).mono ?_; rintro e w1 ⟨rfl, hb1⟩; have HM2 : Hid (MR w1 own b o cv cg m st nd) := (HM1.out _).below hb1 (fun _ _ => rfl); have HB2 : Hid (Below w.heap.size w w1) := (HB1.out _).trans (hb1.mono (HB1.out _).size); clear hb1)
    | (go_at_call 205; refine (mput _ own b o cv cg m st nd r hC HM2 hn.out).mono ?_; rintro e w2 ⟨rfl, h2⟩; have H2 : Hid (MStep w own b o cv cg w2 (m.push r) st nd) := MStep.below hb HB2.out h2.out; clear h2))
  all_goals
    obtain ⟨own2, e2, M2, g2⟩ := H2.out
    have hst := M2.st
    have hf2 := M2.blk.frozen (o + 2)
    have HM3 : Hid _ := M2
    have HE3 : Hid _ := e2
    have HG3 : Hid _ := g2
    clear M2 e2 g2 H2 h1 h2 h1' h2'
    go_wp2_with fail
    refine bodyPost_end (results_none rfl _ _ _) rfl ⟨rfl, ?_⟩
    exact MStep.comp HE3.out HG3.out (setSt HM3.out hC.out 0 0 rfl)
end Go.Proofs.YtiocnfambeochaaGreatDoor
