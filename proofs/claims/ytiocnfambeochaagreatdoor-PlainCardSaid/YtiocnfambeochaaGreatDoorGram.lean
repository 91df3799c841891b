/- Plain mathematics: lists of tokens that the parser takes for an ATOM, a PRODUCT, a SUM, a FORMULA; and how they are put together. -/
import Derived.Test.YtiocnfambeochaaGreatDoorPrsall
namespace Go.Proofs.YtiocnfambeochaaGreatDoor

theorem and_mono {x x' : Option PR} {k k' : List Tk → Nat → Nat → Option PR} {r : PR} (hx : ∀ r, x = some r → x' = some r) (hk : ∀ ts i d r, k ts i d = some r → k' ts i d = some r)
    (h : andThen x k = some r) : andThen x' k' = some r := by
  obtain ⟨r1, e1, ⟨h1, rfl⟩ | ⟨h1, h2⟩⟩ := and_cases h
  · rw [hx _ e1]; simp [andThen, h1]
  · rw [hx _ e1]; simp only [andThen, h1, if_true]; exact hk _ _ _ _ h2
theorem wants_mono {q : Int} {ts : List Tk} {i d : Nat} {k k' : List Tk → Nat → Nat → Option PR} {r : PR} (hk : ∀ ts i d r, k ts i d = some r → k' ts i d = some r)
    (h : wants q ts i d k = some r) : wants q ts i d k' = some r := by
  unfold wants at h ⊢
  by_cases hq : kindAt ts i = q
  · rw [if_pos hq] at h ⊢; exact hk _ _ _ _ h
  · rw [if_neg hq] at h ⊢; exact h
theorem if_mono {c : Prop} [Decidable c] {x x' y : Option PR} {r : PR} (hx : ∀ r, x = some r → x' = some r) (h : (if c then x else y) = some r) : (if c then x' else y) = some r := by
  by_cases hc : c
  · rw [if_pos hc] at h ⊢; exact hx _ h
  · rw [if_neg hc] at h ⊢; exact h

theorem prs_succ : ∀ (f tag : Nat) (ts : List Tk) (i d : Nat) (r : PR), prs f tag ts i d = some r → prs (f + 1) tag ts i d = some r
  | 0, _, _, _, _, _, h => by simp [prs] at h
  | f + 1, tag, ts, i, d, r, h => by
    have ih := prs_succ f
    unfold prs at h ⊢
    by_cases t0 : tag = 0
    · rw [if_pos t0] at h ⊢
      exact and_mono (fun r h => ih _ _ _ _ _ h) (fun ts i d r h => if_mono (fun r h => ih _ _ _ _ _ h) h) h
    rw [if_neg t0] at h ⊢
    by_cases t1 : tag = 1
    · rw [if_pos t1] at h ⊢
      exact and_mono (fun r h => ih _ _ _ _ _ h) (fun ts i d r h => if_mono (fun r h => ih _ _ _ _ _ h) h) h
    rw [if_neg t1] at h ⊢
    by_cases t2 : tag = 2
    · rw [if_pos t2] at h ⊢
      exact and_mono (fun r h => ih _ _ _ _ _ h) (fun ts i d r h => if_mono (fun r h => ih _ _ _ _ _ h) h) h
    rw [if_neg t2] at h ⊢
    by_cases t3 : tag = 3
    · rw [if_pos t3] at h ⊢
      generalize (ngs 8 ts i).1 = us at *
      generalize (ngs 8 ts i).2 = j at *
      by_cases k1 : kindAt us j ∈ [1, 2, 3, 4, 5]
      · rw [if_pos k1] at h ⊢; exact h
      rw [if_neg k1] at h ⊢
      by_cases k2 : kindAt us j = 12
      · rw [if_pos k2] at h ⊢; exact ih _ _ _ _ _ h
      rw [if_neg k2] at h ⊢
      by_cases k3 : kindAt us j = 6
      · rw [if_pos k3] at h ⊢; exact ih _ _ _ _ _ h
      rw [if_neg k3] at h ⊢
      by_cases k4 : kindAt us j ∈ [7, 8]
      · rw [if_pos k4] at h ⊢; exact ih _ _ _ _ _ h
      rw [if_neg k4] at h ⊢
      exact if_mono (fun r h => ih _ _ _ _ _ h) h
    rw [if_neg t3] at h ⊢
    by_cases t4 : tag = 4
    · rw [if_pos t4] at h ⊢
      exact and_mono (fun r h => ih _ _ _ _ _ h) (fun ts i d r h => wants_mono (fun ts i d r h => and_mono (fun r h => ih _ _ _ _ _ h) (fun ts i d r h => wants_mono (fun ts i d r h => ih _ _ _ _ _ h) h) h) h) h
    rw [if_neg t4] at h ⊢
    by_cases t5 : tag = 5
    · rw [if_pos t5] at h ⊢; exact h
    rw [if_neg t5] at h ⊢
    by_cases t8 : d = 8
    · rw [if_pos t8] at h ⊢; exact h
    rw [if_neg t8] at h ⊢
    exact wants_mono (fun ts i d r h => and_mono (fun r h => ih _ _ _ _ _ h) (fun ts i d r h => h) h) h
theorem prs_le {f g tag : Nat} {ts : List Tk} {i d : Nat} {r : PR} (hfg : f ≤ g) (h : prs f tag ts i d = some r) : prs g tag ts i d = some r := by
  induction hfg with
  | refl => exact h
  | step _ ih => exact prs_succ _ _ _ _ _ _ ih

/-- As the tokens are before the parser has told a Negate. -/
def unm (t : Tk) : Tk := { t with k := if t.k = 23 then 17 else t.k }

/-- Kinds of tokens that go on a part: a PRODUCT, a SUM, a FORMULA. -/
def goesOn (lv : Nat) : List Int := if lv = 3 then [] else if lv = 2 then [18, 19] else if lv = 1 then [18, 19, 16, 17, 20] else [18, 19, 16, 17, 20, 21, 22]

/-- The tokens g, wherever they stand, are taken whole (lv 3: an ATOM; 2: a PRODUCT; 1: a SUM; 0: a FORMULA), if at most 8 - n brackets are open. -/
def Is (lv n : Nat) (g : List Tk) : Prop := ∀ (pre post : List Tk) (d : Nat), d + n ≤ 8 → ¬ kindAt post 0 ∈ goesOn lv →
  ∃ f, prs f lv (pre ++ (g.map unm ++ post)) pre.length d = some ⟨true, pre ++ (g ++ post), pre.length + g.length, d⟩

theorem kindAt_app (a b : List Tk) (j : Nat) : kindAt (a ++ b) (a.length + j) = kindAt b j := by
  unfold kindAt; rw [List.getElem?_append_right (by omega), Nat.add_sub_cancel_left]
theorem kindAt_app0 (a b : List Tk) : kindAt (a ++ b) a.length = kindAt b 0 := kindAt_app a b 0

theorem Is.more {lv n m : Nat} {g : List Tk} (h : Is lv n g) (hm : n ≤ m) : Is lv m g := fun pre post d hd hp => h pre post d (by omega) hp

theorem is_prod {n : Nat} {g : List Tk} (h : Is 3 n g) : Is 2 n g := by
  intro pre post d hd hp
  obtain ⟨f, hf⟩ := h pre post d hd (by simp [goesOn])
  refine ⟨f + 1, ?_⟩
  rw [prs2, hf]
  simp only [andThen, if_true]
  rw [← List.length_append, ← List.append_assoc, kindAt_app0, if_neg (by simpa [goesOn] using hp)]
theorem is_sum {n : Nat} {g : List Tk} (h : Is 2 n g) : Is 1 n g := by
  intro pre post d hd hp
  obtain ⟨f, hf⟩ := h pre post d hd (by revert hp; simp [goesOn] <;> omega)
  refine ⟨f + 1, ?_⟩
  rw [prs1, hf]
  simp only [andThen, if_true]
  rw [← List.length_append, ← List.append_assoc, kindAt_app0, if_neg (by revert hp; simp [goesOn] <;> omega)]
theorem is_form {n : Nat} {g : List Tk} (h : Is 1 n g) : Is 0 n g := by
  intro pre post d hd hp
  obtain ⟨f, hf⟩ := h pre post d hd (by revert hp; simp [goesOn] <;> omega)
  refine ⟨f + 1, ?_⟩
  rw [prs0, hf]
  simp only [andThen, if_true]
  rw [← List.length_append, ← List.append_assoc, kindAt_app0, if_neg (by revert hp; simp [goesOn] <;> omega)]

theorem unm_other {t : Tk} (h : t.k ≠ 23) : unm t = t := by unfold unm; rw [if_neg h]
theorem kindAt_cons (t : Tk) (r : List Tk) : kindAt (t :: r) 0 = t.k := rfl

/-- Two parts with a sign between. -/
theorem is_two {lv hi n : Nat} {ks : List Int} {a b : List Tk} {o : Tk} (ha : Is hi n a) (ho : o.k ∈ ks) (h23 : o.k ≠ 23) (hno : ¬ o.k ∈ goesOn hi)
    (hb : ∀ (pre post : List Tk) (d : Nat), d + n ≤ 8 → ¬ kindAt post 0 ∈ goesOn lv → ∃ f r, prs f r (pre ++ (b.map unm ++ post)) pre.length d = some ⟨true, pre ++ (b ++ post), pre.length + b.length, d⟩ ∧ r = (if lv = 0 then 1 else lv))
    (hp : ∀ (f : Nat) (ts : List Tk) (i d : Nat), prs (f + 1) lv ts i d = andThen (prs f hi ts i d) fun ts i d => if kindAt ts i ∈ ks then prs f (if lv = 0 then 1 else lv) ts (i + 1) d else some ⟨true, ts, i, d⟩) :
    Is lv n (a ++ o :: b) := by
  intro pre post d hd hpost
  obtain ⟨f1, e1⟩ := ha pre (o :: (b.map unm ++ post)) d hd (by rw [kindAt_cons]; exact hno)
  obtain ⟨f2, r, e2, rfl⟩ := hb (pre ++ (a ++ [o])) post d hd hpost
  refine ⟨max f1 f2 + 1, ?_⟩
  have e1' := prs_le (Nat.le_max_left f1 f2) e1
  have e2' := prs_le (Nat.le_max_right f1 f2) e2
  have l1 : pre ++ (List.map unm (a ++ o :: b) ++ post) = pre ++ (a.map unm ++ (o :: (b.map unm ++ post))) := by simp [unm_other h23]
  have l2 : pre ++ (a ++ o :: (b.map unm ++ post)) = (pre ++ (a ++ [o])) ++ (b.map unm ++ post) := by simp
  have l3 : pre.length + a.length + 1 = (pre ++ (a ++ [o])).length := by simp; omega
  rw [hp, l1, e1']
  simp only [andThen, if_true]
  have hk : kindAt (pre ++ (a ++ o :: (b.map unm ++ post))) (pre.length + a.length) = o.k := by
    rw [← List.length_append, ← List.append_assoc, kindAt_app0, kindAt_cons]
  rw [hk, if_pos ho, l3, l2, e2']
  simp
  omega

theorem is_mul {n : Nat} {a b : List Tk} {o : Tk} (ha : Is 3 n a) (hb : Is 2 n b) (ho : o.k ∈ [18, 19]) : Is 2 n (a ++ o :: b) :=
  is_two (hi := 3) (lv := 2) (ks := [18, 19]) ha ho (by intro h; rw [h] at ho; revert ho; decide) (by simp [goesOn])
    (fun pre post d hd hp => by obtain ⟨f, e⟩ := hb pre post d hd hp; exact ⟨f, 2, e, rfl⟩) (fun f ts i d => prs2 f ts i d)
theorem is_add {n : Nat} {a b : List Tk} {o : Tk} (ha : Is 2 n a) (hb : Is 1 n b) (ho : o.k ∈ [16, 17, 20]) : Is 1 n (a ++ o :: b) :=
  is_two (hi := 2) (lv := 1) (ks := [16, 17, 20]) ha ho (by intro h; rw [h] at ho; revert ho; decide) (by simp only [List.mem_cons, List.not_mem_nil, or_false] at ho; simp [goesOn]; omega)
    (fun pre post d hd hp => by obtain ⟨f, e⟩ := hb pre post d hd hp; exact ⟨f, 1, e, rfl⟩) (fun f ts i d => prs1 f ts i d)
theorem is_cmp {n : Nat} {a b : List Tk} {o : Tk} (ha : Is 1 n a) (hb : Is 1 n b) (ho : o.k ∈ [21, 22]) : Is 0 n (a ++ o :: b) :=
  is_two (hi := 1) (lv := 0) (ks := [21, 22]) ha ho (by intro h; rw [h] at ho; revert ho; decide) (by simp only [List.mem_cons, List.not_mem_nil, or_false] at ho; simp [goesOn]; omega)
    (fun pre post d hd hp => by obtain ⟨f, e⟩ := hb pre post d hd (by revert hp; simp [goesOn] <;> omega); exact ⟨f, 1, e, rfl⟩) (fun f ts i d => prs0 f ts i d)

theorem ngs_stop {n : Nat} {ts : List Tk} {i : Nat} (h : kindAt ts i ≠ 17) : ngs n ts i = (ts, i) := by
  cases n with
  | zero => rfl
  | succ n => unfold ngs; rw [if_neg h]

theorem is_one {t : Tk} (h : t.k ∈ [1, 2, 3, 4, 5]) : Is 3 0 [t] := by
  intro pre post d hd hp
  have h23 : t.k ≠ 23 := by intro e; rw [e] at h; revert h; decide
  have h17 : t.k ≠ 17 := by intro e; rw [e] at h; revert h; decide
  refine ⟨1, ?_⟩
  have hk : kindAt (pre ++ ([t].map unm ++ post)) pre.length = t.k := by rw [kindAt_app0, List.map_cons, unm_other h23]; rfl
  rw [prs3, ngs_stop (by rw [hk]; exact h17)]
  simp only
  rw [hk, if_pos h]
  simp [unm_other h23]

theorem mark_app : ∀ (pre : List Tk) (t : Tk) (r : List Tk), mark (pre ++ t :: r) pre.length = pre ++ { t with k := 23 } :: r
  | [], t, r => by simp [mark, List.modify_cons]
  | a :: p, t, r => by
    have := mark_app p t r
    unfold mark at this ⊢
    simp [this]

theorem is_neg {m t : Tk} (hm : m.k = 23) (h : t.k ∈ [1, 2, 3, 4, 5]) : Is 3 0 [m, t] := by
  intro pre post d hd hp
  have h23 : t.k ≠ 23 := by intro e; rw [e] at h; revert h; decide
  have h17 : t.k ≠ 17 := by intro e; rw [e] at h; revert h; decide
  refine ⟨1, ?_⟩
  have hk : kindAt (pre ++ ([m, t].map unm ++ post)) pre.length = 17 := by rw [kindAt_app0]; simp [unm, hm, kindAt]
  have hmk : mark (pre ++ ([m, t].map unm ++ post)) pre.length = pre ++ ([m, t] ++ post) := by
    have e : [m, t].map unm ++ post = unm m :: (t :: post) := by simp [unm_other h23]
    rw [e, mark_app]
    have e2 : { unm m with k := 23 } = m := by cases m; simp at hm; rw [hm]; rfl
    rw [e2]
    rfl
  have hk2 : kindAt (pre ++ ([m, t] ++ post)) (pre.length + 1) = t.k := by rw [kindAt_app]; rfl
  have hn : ngs 8 (pre ++ ([m, t].map unm ++ post)) pre.length = (pre ++ ([m, t] ++ post), pre.length + 1) := by
    unfold ngs
    rw [if_pos hk, hmk, ngs_stop (by rw [hk2]; exact h17)]
  rw [prs3, hn]
  simp only
  rw [hk2, if_pos h]
  simp

/-- What stands in brackets, behind no word, or behind one: 'inner' is taken by the tag's own inner function. -/
theorem is_br {n tag inner : Nat} {o c : Tk} {g : List Tk} (ho : o.k = 12) (hc : c.k = 13)
    (hp : ∀ (f : Nat) (ts : List Tk) (i d : Nat), prs (f + 1) tag ts i d = if d = 8 then some ⟨false, ts, i, d⟩
      else wants 12 ts i d fun ts i d => andThen (prs f inner ts i (d + 1)) fun ts i d => wants 13 ts i d fun ts i d => some ⟨true, ts, i, d - 1⟩)
    (hg : ∀ (pre post : List Tk) (d : Nat), d + n ≤ 8 → kindAt post 0 = 13 → ∃ f, prs f inner (pre ++ (g.map unm ++ post)) pre.length d = some ⟨true, pre ++ (g ++ post), pre.length + g.length, d⟩)
    (pre post : List Tk) (d : Nat) (hd : d + (n + 1) ≤ 8) : ∃ f, prs f tag (pre ++ ((o :: (g ++ [c])).map unm ++ post)) pre.length d = some ⟨true, pre ++ ((o :: (g ++ [c])) ++ post), pre.length + (g.length + 2), d⟩ := by
  have uo : unm o = o := unm_other (by rw [ho]; decide)
  have uc : unm c = c := unm_other (by rw [hc]; decide)
  obtain ⟨f, e⟩ := hg (pre ++ [o]) (c :: post) (d + 1) (by omega) (by rw [kindAt_cons]; exact hc)
  refine ⟨f + 1, ?_⟩
  have l1 : pre ++ ((o :: (g ++ [c])).map unm ++ post) = (pre ++ [o]) ++ (g.map unm ++ (c :: post)) := by simp [uo, uc]
  have hk : kindAt ((pre ++ [o]) ++ (g.map unm ++ (c :: post))) pre.length = 12 := by
    rw [List.append_assoc, kindAt_app0]; simpa [kindAt] using ho
  have l2 : pre.length + 1 = (pre ++ [o]).length := by simp
  rw [hp, if_neg (by omega), l1]
  unfold wants
  simp only
  rw [if_pos hk, l2, e]
  simp only [andThen, if_true]
  have hk2 : kindAt ((pre ++ [o]) ++ (g ++ (c :: post))) ((pre ++ [o]).length + g.length) = 13 := by
    rw [← List.length_append, ← List.append_assoc, kindAt_app0, kindAt_cons]; exact hc
  rw [if_pos hk2]
  simp
  omega

theorem form_in {n : Nat} {g : List Tk} (h : Is 0 n g) : ∀ (pre post : List Tk) (d : Nat), d + n ≤ 8 → kindAt post 0 = 13 → ∃ f, prs f 0 (pre ++ (g.map unm ++ post)) pre.length d = some ⟨true, pre ++ (g ++ post), pre.length + g.length, d⟩ :=
  fun pre post d hd hp => h pre post d hd (by rw [hp]; simp [goesOn])

theorem is_bracket {n : Nat} {o c : Tk} {g : List Tk} (ho : o.k = 12) (hc : c.k = 13) (h : Is 0 n g) : Is 3 (n + 1) (o :: (g ++ [c])) := by
  intro pre post d hd hp
  obtain ⟨f, e⟩ := is_br ho hc prs6 (form_in h) pre post d hd
  refine ⟨f + 1, ?_⟩
  have uo : unm o = o := unm_other (by rw [ho]; decide)
  have hk : kindAt (pre ++ ((o :: (g ++ [c])).map unm ++ post)) pre.length = 12 := by rw [kindAt_app0, List.map_cons, uo]; exact ho
  rw [prs3, ngs_stop (by rw [hk]; decide)]
  simp only
  rw [hk, if_neg (by decide), if_pos rfl, e]
  simp

/-- A word ahead of brackets. -/
theorem is_word {n tag inner : Nat} {wd o c : Tk} {g : List Tk} (h23 : wd.k ≠ 23) (ho : o.k = 12) (hc : c.k = 13)
    (hp : ∀ (f : Nat) (ts : List Tk) (i d : Nat), prs (f + 1) tag ts i d = if d = 8 then some ⟨false, ts, i, d⟩
      else wants 12 ts i d fun ts i d => andThen (prs f inner ts i (d + 1)) fun ts i d => wants 13 ts i d fun ts i d => some ⟨true, ts, i, d - 1⟩)
    (hg : ∀ (pre post : List Tk) (d : Nat), d + n ≤ 8 → kindAt post 0 = 13 → ∃ f, prs f inner (pre ++ (g.map unm ++ post)) pre.length d = some ⟨true, pre ++ (g ++ post), pre.length + g.length, d⟩)
    (ha : ∀ (f : Nat) (ts : List Tk) (i d : Nat), kindAt ts i = wd.k → prs (f + 1) 3 ts i d = prs f tag ts (i + 1) d) : Is 3 (n + 1) (wd :: o :: (g ++ [c])) := by
  intro pre post d hd hpost
  obtain ⟨f, e⟩ := is_br ho hc hp hg (pre ++ [wd]) post d hd
  refine ⟨f + 1, ?_⟩
  have uw : unm wd = wd := unm_other h23
  have l1 : pre ++ ((wd :: o :: (g ++ [c])).map unm ++ post) = (pre ++ [wd]) ++ ((o :: (g ++ [c])).map unm ++ post) := by simp [uw]
  have hk : kindAt ((pre ++ [wd]) ++ ((o :: (g ++ [c])).map unm ++ post)) pre.length = wd.k := by rw [List.append_assoc, kindAt_app0]; rfl
  have l2 : pre.length + 1 = (pre ++ [wd]).length := by simp
  rw [l1, ha f _ _ _ hk, l2, e]
  simp
  omega

theorem atom_word {wd : Int} (f : Nat) (ts : List Tk) (i d : Nat) (h : kindAt ts i = wd) (h17 : wd ≠ 17) : prs (f + 1) 3 ts i d =
    if wd ∈ [1, 2, 3, 4, 5] then some ⟨true, ts, i + 1, d⟩ else if wd = 12 then prs f 6 ts i d else if wd = 6 then prs f 7 ts (i + 1) d
    else if wd ∈ [7, 8] then prs f 6 ts (i + 1) d else if wd ∈ [9, 10] then prs f 8 ts (i + 1) d else some ⟨false, ts, i, d⟩ := by
  rw [prs3, ngs_stop (by rw [h]; exact h17)]
  simp only
  rw [h]

theorem is_call {n : Nat} {wd o c : Tk} {g : List Tk} (hw : wd.k ∈ [7, 8]) (ho : o.k = 12) (hc : c.k = 13) (h : Is 0 n g) : Is 3 (n + 1) (wd :: o :: (g ++ [c])) := by
  have hw' : wd.k = 7 ∨ wd.k = 8 := by simpa using hw
  refine is_word (by omega) ho hc prs6 (form_in h) fun f ts i d hk => ?_
  rw [atom_word f ts i d hk (by omega), if_neg (by simp; omega), if_neg (by omega), if_neg (by omega), if_pos hw]

theorem is_if {n : Nat} {wd o c m1 m2 : Tk} {a b g : List Tk} (hw : wd.k = 6) (ho : o.k = 12) (hc : c.k = 13) (hm1 : m1.k = 14) (hm2 : m2.k = 14) (ha : Is 0 n a) (hb : Is 0 n b) (hg : Is 0 n g) :
    Is 3 (n + 1) (wd :: o :: ((a ++ m1 :: (b ++ m2 :: g)) ++ [c])) := by
  refine is_word (by omega) ho hc prs7 (fun pre post d hd hp => ?_) fun f ts i d hk => ?_
  · have u1 : unm m1 = m1 := unm_other (by rw [hm1]; decide)
    have u2 : unm m2 = m2 := unm_other (by rw [hm2]; decide)
    obtain ⟨f1, e1⟩ := ha pre (m1 :: (b.map unm ++ (m2 :: (g.map unm ++ post)))) d hd (by rw [kindAt_cons, hm1]; simp [goesOn])
    obtain ⟨f2, e2⟩ := hb (pre ++ (a ++ [m1])) (m2 :: (g.map unm ++ post)) d hd (by rw [kindAt_cons, hm2]; simp [goesOn])
    obtain ⟨f3, e3⟩ := hg (pre ++ (a ++ [m1]) ++ (b ++ [m2])) post d hd (by rw [hp]; simp [goesOn])
    refine ⟨max f1 (max f2 f3) + 1, ?_⟩
    have e1' := prs_le (show f1 ≤ max f1 (max f2 f3) by omega) e1
    have e2' := prs_le (show f2 ≤ max f1 (max f2 f3) by omega) e2
    have e3' := prs_le (show f3 ≤ max f1 (max f2 f3) by omega) e3
    have l1 : pre ++ (List.map unm (a ++ m1 :: (b ++ m2 :: g)) ++ post) = pre ++ (a.map unm ++ (m1 :: (b.map unm ++ (m2 :: (g.map unm ++ post))))) := by simp [u1, u2]
    have l2 : pre ++ (a ++ m1 :: (b.map unm ++ (m2 :: (g.map unm ++ post)))) = (pre ++ (a ++ [m1])) ++ (b.map unm ++ (m2 :: (g.map unm ++ post))) := by simp
    have l3 : pre.length + a.length + 1 = (pre ++ (a ++ [m1])).length := by simp; omega
    have l4 : (pre ++ (a ++ [m1])) ++ (b ++ m2 :: (g.map unm ++ post)) = (pre ++ (a ++ [m1]) ++ (b ++ [m2])) ++ (g.map unm ++ post) := by simp
    have l5 : (pre ++ (a ++ [m1])).length + b.length + 1 = (pre ++ (a ++ [m1]) ++ (b ++ [m2])).length := by simp; omega
    have k1 : kindAt (pre ++ (a ++ m1 :: (b.map unm ++ (m2 :: (g.map unm ++ post))))) (pre.length + a.length) = 14 := by
      rw [← List.length_append, ← List.append_assoc, kindAt_app0, kindAt_cons]; exact hm1
    have k2 : kindAt ((pre ++ (a ++ [m1])) ++ (b ++ m2 :: (g.map unm ++ post))) ((pre ++ (a ++ [m1])).length + b.length) = 14 := by
      rw [← List.length_append, ← List.append_assoc, kindAt_app0, kindAt_cons]; exact hm2
    rw [prs4, l1, e1']
    simp only [andThen, if_true]
    unfold wants
    rw [if_pos k1, l3, l2]
    dsimp only
    rw [e2']
    simp only [if_true]
    rw [if_pos k2, l5, l4, e3']
    simp
    omega
  · rw [atom_word f ts i d hk (by omega), hw, if_neg (by decide), if_neg (by decide), if_pos rfl]

theorem is_range {wd o c a m b : Tk} (hw : wd.k ∈ [9, 10]) (ho : o.k = 12) (hc : c.k = 13) (ha : a.k = 5) (hm : m.k = 15) (hb : b.k = 5) : Is 3 1 (wd :: o :: ([a, m, b] ++ [c])) := by
  have hw' : wd.k = 9 ∨ wd.k = 10 := by simpa using hw
  refine is_word (n := 0) (by omega) ho hc prs8 (fun pre post d hd hp => ?_) fun f ts i d hk => ?_
  · have u1 : unm a = a := unm_other (by rw [ha]; decide)
    have u2 : unm m = m := unm_other (by rw [hm]; decide)
    have u3 : unm b = b := unm_other (by rw [hb]; decide)
    refine ⟨1, ?_⟩
    have l1 : pre ++ ([a, m, b].map unm ++ post) = pre ++ ([a, m, b] ++ post) := by simp [u1, u2, u3]
    have k1 : kindAt (pre ++ ([a, m, b] ++ post)) pre.length = 5 := by rw [kindAt_app0]; exact ha
    have k2 : kindAt (pre ++ ([a, m, b] ++ post)) (pre.length + 1) = 15 := by rw [kindAt_app]; exact hm
    have k3 : kindAt (pre ++ ([a, m, b] ++ post)) (pre.length + 1 + 1) = 5 := by rw [show pre.length + 1 + 1 = pre.length + 2 from rfl, kindAt_app]; exact hb
    rw [prs5, l1]
    unfold wants
    rw [if_pos k1]
    dsimp only
    rw [if_pos k2, if_pos k3]
    simp
  · rw [atom_word f ts i d hk (by omega), if_neg (by simp; omega), if_neg (by omega), if_neg (by omega), if_neg (by simp; omega), if_pos hw]
end Go.Proofs.YtiocnfambeochaaGreatDoor
