/- Plain mathematics: a text whose tokens are known, and are a formula, has its plain form. -/
import Derived.Test.YtiocnfambeochaaGreatDoorSpell
import Derived.Test.YtiocnfambeochaaGreatDoorTop
namespace Go.Proofs.YtiocnfambeochaaGreatDoor

def kx (t : Tk) : Int × List UInt8 := (t.k, t.x)
/-- The same tokens, at whatever places. -/
def Sim (ts us : List Tk) : Prop := ts.map kx = us.map kx

theorem Sim.len {ts us : List Tk} (h : Sim ts us) : ts.length = us.length := by simpa using congrArg List.length h
theorem Sim.get {ts us : List Tk} (h : Sim ts us) (i : Nat) : (ts[i]?).map kx = (us[i]?).map kx := by
  rw [← List.getElem?_map, ← List.getElem?_map, h]
theorem Sim.kind {ts us : List Tk} (h : Sim ts us) (i : Nat) : kindAt ts i = kindAt us i := by
  have := h.get i
  unfold kindAt
  cases h1 : ts[i]? <;> cases h2 : us[i]? <;> rw [h1, h2] at this <;> simp [kx] at this ⊢
  exact this.1
theorem mark_kx (ts : List Tk) (i : Nat) : (mark ts i).map kx = (ts.map kx).modify i fun q => (23, q.2) := by
  unfold mark
  induction ts generalizing i with
  | nil => simp
  | cons a r ih =>
    cases i with
    | zero => simp [List.modify_cons, kx]
    | succ i => simp [ih i]
theorem Sim.mark {ts us : List Tk} (h : Sim ts us) (i : Nat) : Sim (YtiocnfambeochaaGreatDoor.mark ts i) (YtiocnfambeochaaGreatDoor.mark us i) := by
  unfold Sim; rw [mark_kx, mark_kx, h]
theorem Sim.ngs : ∀ (n : Nat) {ts us : List Tk} (_ : Sim ts us) (i : Nat), Sim (YtiocnfambeochaaGreatDoor.ngs n ts i).1 (YtiocnfambeochaaGreatDoor.ngs n us i).1 ∧ (YtiocnfambeochaaGreatDoor.ngs n ts i).2 = (YtiocnfambeochaaGreatDoor.ngs n us i).2
  | 0, _, _, h, _ => ⟨h, rfl⟩
  | n + 1, ts, us, h, i => by
    unfold YtiocnfambeochaaGreatDoor.ngs
    rw [h.kind i]
    by_cases hk : kindAt us i = 17
    · rw [if_pos hk, if_pos hk]; exact Sim.ngs n (h.mark i) (i + 1)
    · rw [if_neg hk, if_neg hk]; exact ⟨h, rfl⟩

/-- Two answers that part in places alone. -/
def SimR (a b : Option PR) : Prop := match a, b with
  | none, none => True
  | some r, some q => r.ok = q.ok ∧ r.i = q.i ∧ r.d = q.d ∧ Sim r.ts q.ts
  | _, _ => False
theorem and_sim {x y : Option PR} {k l : List Tk → Nat → Nat → Option PR} (hx : SimR x y) (hk : ∀ ts us i d, Sim ts us → SimR (k ts i d) (l us i d)) : SimR (andThen x k) (andThen y l) := by
  match x, y, hx with
  | none, none, _ => trivial
  | some r, some q, ⟨h1, h2, h3, h4⟩ =>
    unfold andThen
    simp only
    rw [h1]
    cases q.ok
    · simp only [Bool.false_eq_true, if_false]; exact ⟨h1, h2, h3, h4⟩
    · simp only [if_true]; rw [h2, h3]; exact hk _ _ _ _ h4
theorem wants_sim {q : Int} {ts us : List Tk} {i d : Nat} {k l : List Tk → Nat → Nat → Option PR} (h : Sim ts us) (hk : ∀ ts us i d, Sim ts us → SimR (k ts i d) (l us i d)) : SimR (wants q ts i d k) (wants q us i d l) := by
  unfold wants
  rw [h.kind i]
  by_cases hq : kindAt us i = q
  · rw [if_pos hq, if_pos hq]; exact hk _ _ _ _ h
  · rw [if_neg hq, if_neg hq]; exact ⟨rfl, rfl, rfl, h⟩
theorem loop_sim {ks : List Int} {ts us : List Tk} {i d : Nat} {x y : Option PR} (h : Sim ts us) (hx : SimR x y) : SimR (if kindAt ts i ∈ ks then x else some ⟨true, ts, i, d⟩) (if kindAt us i ∈ ks then y else some ⟨true, us, i, d⟩) := by
  rw [h.kind i]
  by_cases hq : kindAt us i ∈ ks
  · rw [if_pos hq, if_pos hq]; exact hx
  · rw [if_neg hq, if_neg hq]; exact ⟨rfl, rfl, rfl, h⟩

theorem prs_sim : ∀ (f tag : Nat) (ts us : List Tk) (i d : Nat), Sim ts us → SimR (prs f tag ts i d) (prs f tag us i d)
  | 0, _, _, _, _, _, _ => trivial
  | f + 1, tag, ts, us, i, d, h => by
    have ih := prs_sim f
    unfold prs
    by_cases t0 : tag = 0
    · rw [if_pos t0, if_pos t0]; exact and_sim (ih _ _ _ _ _ h) fun ts us i d h => loop_sim h (ih _ _ _ _ _ h)
    rw [if_neg t0, if_neg t0]
    by_cases t1 : tag = 1
    · rw [if_pos t1, if_pos t1]; exact and_sim (ih _ _ _ _ _ h) fun ts us i d h => loop_sim h (ih _ _ _ _ _ h)
    rw [if_neg t1, if_neg t1]
    by_cases t2 : tag = 2
    · rw [if_pos t2, if_pos t2]; exact and_sim (ih _ _ _ _ _ h) fun ts us i d h => loop_sim h (ih _ _ _ _ _ h)
    rw [if_neg t2, if_neg t2]
    by_cases t3 : tag = 3
    · rw [if_pos t3, if_pos t3]
      obtain ⟨n1, n2⟩ := Sim.ngs 8 h i
      rw [n2, n1.kind]
      generalize (YtiocnfambeochaaGreatDoor.ngs 8 ts i).1 = a at *
      generalize (YtiocnfambeochaaGreatDoor.ngs 8 us i).1 = b at *
      generalize (YtiocnfambeochaaGreatDoor.ngs 8 us i).2 = j at *
      by_cases k1 : kindAt b j ∈ [1, 2, 3, 4, 5]
      · rw [if_pos k1, if_pos k1]; exact ⟨rfl, rfl, rfl, n1⟩
      rw [if_neg k1, if_neg k1]
      by_cases k2 : kindAt b j = 12
      · rw [if_pos k2, if_pos k2]; exact ih _ _ _ _ _ n1
      rw [if_neg k2, if_neg k2]
      by_cases k3 : kindAt b j = 6
      · rw [if_pos k3, if_pos k3]; exact ih _ _ _ _ _ n1
      rw [if_neg k3, if_neg k3]
      by_cases k4 : kindAt b j ∈ [7, 8]
      · rw [if_pos k4, if_pos k4]; exact ih _ _ _ _ _ n1
      rw [if_neg k4, if_neg k4]
      by_cases k5 : kindAt b j ∈ [9, 10]
      · rw [if_pos k5, if_pos k5]; exact ih _ _ _ _ _ n1
      rw [if_neg k5, if_neg k5]
      exact ⟨rfl, rfl, rfl, n1⟩
    rw [if_neg t3, if_neg t3]
    by_cases t4 : tag = 4
    · rw [if_pos t4, if_pos t4]
      exact and_sim (ih _ _ _ _ _ h) fun ts us i d h => wants_sim h fun ts us i d h => and_sim (ih _ _ _ _ _ h) fun ts us i d h => wants_sim h fun ts us i d h => ih _ _ _ _ _ h
    rw [if_neg t4, if_neg t4]
    by_cases t5 : tag = 5
    · rw [if_pos t5, if_pos t5]
      exact wants_sim h fun ts us i d h => wants_sim h fun ts us i d h => wants_sim h fun ts us i d h => ⟨rfl, rfl, rfl, h⟩
    rw [if_neg t5, if_neg t5]
    by_cases t8 : d = 8
    · rw [if_pos t8, if_pos t8]; exact ⟨rfl, rfl, rfl, h⟩
    rw [if_neg t8, if_neg t8]
    exact wants_sim h fun ts us i d h => and_sim (ih _ _ _ _ _ h) fun ts us i d h => wants_sim h fun ts us i d h => ⟨rfl, rfl, rfl, h⟩

theorem chk_sim : ∀ (n : Nat) (ts us : List Tk), Sim ts us → chk n ts = none → chk n us = none
  | 0, _, _, _, _ => rfl
  | n + 1, [], [], _, _ => rfl
  | n + 1, [], u :: us, h, _ => by simp [Sim] at h
  | n + 1, t :: ts, [], h, _ => by simp [Sim] at h
  | n + 1, t :: ts, u :: us, h, hc => by
    have hk : t.k = u.k := by simpa [kindAt] using h.kind 0
    have hx : t.x = u.x := by
      have := h.get 0
      simp [kx] at this
      exact this.2
    have hr : Sim ts us := by
      unfold Sim at h ⊢
      simp only [List.map_cons, List.cons.injEq] at h
      exact h.2
    have hd : Sim (ts.drop 2) (us.drop 2) := by unfold Sim at hr ⊢; rw [List.map_drop, List.map_drop, hr]
    have hR : isR (t :: ts) = isR (u :: us) := by unfold isR; rw [h.kind 1, h.len]
    have hT : txtAt (t :: ts) 2 = txtAt (u :: us) 2 := by
      have := h.get 2
      unfold txtAt
      cases h1 : (t :: ts)[2]? <;> cases h2 : (u :: us)[2]? <;> rw [h1, h2] at this <;> simp [kx] at this ⊢
      exact this.2
    unfold chk at hc ⊢
    rw [hk, hx, hR, hT] at hc
    by_cases k5 : u.k ≠ 5
    · rw [if_pos k5] at hc ⊢; exact chk_sim n _ _ hr hc
    rw [if_neg k5] at hc ⊢
    by_cases kr : isR (u :: us) = true
    · rw [if_pos kr] at hc ⊢
      by_cases kb : badA (cn u.x) (cn (txtAt (u :: us) 2)) = true
      · rw [if_pos kb] at hc; cases hc
      · rw [if_neg kb] at hc ⊢; exact chk_sim n _ _ hd hc
    · rw [if_neg kr] at hc ⊢
      by_cases kc : (cn u.x).2 = true
      · rw [if_pos kc] at hc ⊢; exact chk_sim n _ _ hr hc
      · rw [if_neg kc] at hc; cases hc

theorem ptk_kx {t u : Tk} (h : kx t = kx u) : ptk t = ptk u := by
  simp only [kx, Prod.mk.injEq] at h
  unfold ptk
  rw [h.1, h.2]
theorem flat_sim : ∀ {ts us : List Tk}, Sim ts us → ts.flatMap ptk = us.flatMap ptk
  | [], [], _ => rfl
  | [], _ :: _, h => by simp [Sim] at h
  | _ :: _, [], h => by simp [Sim] at h
  | t :: ts, u :: us, h => by
    unfold Sim at h
    simp only [List.map_cons, List.cons.injEq] at h
    rw [List.flatMap_cons, List.flatMap_cons, ptk_kx h.1, flat_sim (show Sim ts us from h.2)]

/-- A text of these tokens, which are a formula whose cells there are: Plain tells the tokens in their plain form. -/
theorem plain_made (s : List UInt8) (g : List Tk) (hs : SC s (kxs g)) (hg : Is 0 8 g) (hc : chk g.length g = none) (hl : s.length ≤ 120) :
    (rd s).e = 0 ∧ (rd s).p = 0 ∧ plT s = g.flatMap ptk := by
  obtain ⟨ts, e1, e2⟩ := hs 0 s.length (Nat.le_refl _)
  have hsim : Sim (g.map unm) ts := by
    unfold Sim
    rw [List.map_map]
    have : ts.map kx = kxs g := e2
    rw [this]
    rfl
  obtain ⟨f, ef⟩ := hg [] [] 0 (by omega) (by simp [kindAt, goesOn])
  simp only [List.nil_append, List.append_nil, List.length_nil, Nat.zero_add] at ef
  have h1 := prs_sim f 0 (g.map unm) ts 0 0 hsim
  rw [ef] at h1
  match hq : prs f 0 ts 0 0, h1 with
  | none, h1 => exact absurd h1 (by simp [SimR])
  | some q, ⟨h1, h2, _, h4⟩ =>
    obtain ⟨r, er, _⟩ := prs_fuel (8 * ts.length + 6) 0 ts 0 0 (by omega) (by have : rk 0 = 5 := rfl; omega)
    have a1 := prs_le (Nat.le_max_left f (8 * ts.length + 6)) hq
    have a2 := prs_le (Nat.le_max_right f (8 * ts.length + 6)) er
    rw [a1, Option.some.injEq] at a2
    subst a2
    have hlen : g.length = q.ts.length := h4.len
    have hchk : chk q.ts.length q.ts = none := by rw [← hlen]; exact chk_sim _ _ _ h4 hc
    have hrd : rd s = ⟨0, 0, q.ts⟩ := by
      unfold rd
      rw [if_neg (by omega), rdA, e1]
      simp only
      rw [er]
      simp only
      unfold rdP
      rw [if_neg (by rw [← h1, ← h2]; simp [hlen]), hchk]
    refine ⟨by rw [hrd], by rw [hrd], ?_⟩
    unfold plT
    rw [hrd, if_pos rfl]
    exact (flat_sim h4).symm
end Go.Proofs.YtiocnfambeochaaGreatDoor
