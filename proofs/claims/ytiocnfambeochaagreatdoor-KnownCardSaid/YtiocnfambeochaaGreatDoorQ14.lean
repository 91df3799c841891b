/- Texts put together. -/
import Derived.Test.YtiocnfambeochaaGreatDoorQ13
/- The program's call Plain, whole: what it answers is a plain function of the text. -/
namespace Go.Proofs.YtiocnfambeochaaGreatDoor
open Go.RowKit

def Txt (us ts : List Tk) : Prop := us.map (fun t => t.x) = ts.map (fun t => t.x)
theorem mark_txt (ts : List Tk) (i : Nat) : Txt (mark ts i) ts := by
  unfold Txt mark
  induction ts generalizing i with
  | nil => simp
  | cons a r ih =>
    cases i with
    | zero => simp [List.modify_cons]
    | succ i => simp [ih i]
theorem ngs_txt : ∀ (n : Nat) (ts : List Tk) (i : Nat), Txt (ngs n ts i).1 ts
  | 0, _, _ => rfl
  | n + 1, ts, i => by
    unfold ngs
    by_cases h : kindAt ts i = 17
    · rw [if_pos h]; exact (ngs_txt n (mark ts i) (i + 1)).trans (mark_txt ts i)
    · rw [if_neg h]; rfl

theorem prs_txt : ∀ (f tag : Nat) (ts : List Tk) (i d : Nat) (r : PR), prs f tag ts i d = some r → Txt r.ts ts
  | 0, _, _, _, _, _, h => by simp [prs] at h
  | f + 1, tag, ts, i, d, r, h => by
    have ih := prs_txt f
    have loop : ∀ (t1 t2 : Nat) (ks : List Int), andThen (prs f t1 ts i d) (fun ts i d => if kindAt ts i ∈ ks then prs f t2 ts (i + 1) d else some ⟨true, ts, i, d⟩) = some r → Txt r.ts ts := by
      intro t1 t2 ks h
      obtain ⟨r1, e1, ⟨_, rfl⟩ | ⟨_, h2⟩⟩ := and_cases h
      · exact ih _ _ _ _ _ e1
      have d1 := ih _ _ _ _ _ e1
      by_cases hk : kindAt r1.ts r1.i ∈ ks
      · rw [if_pos hk] at h2; exact (ih _ _ _ _ _ h2).trans d1
      · rw [if_neg hk] at h2; cases h2; exact d1
    unfold prs at h
    by_cases t0 : tag = 0
    · rw [if_pos t0] at h; exact loop _ _ _ h
    rw [if_neg t0] at h
    by_cases t1 : tag = 1
    · rw [if_pos t1] at h; exact loop _ _ _ h
    rw [if_neg t1] at h
    by_cases t2 : tag = 2
    · rw [if_pos t2] at h; exact loop _ _ _ h
    rw [if_neg t2] at h
    by_cases t3 : tag = 3
    · rw [if_pos t3] at h
      have hn := ngs_txt 8 ts i
      generalize (ngs 8 ts i).1 = us at *
      generalize (ngs 8 ts i).2 = j at *
      by_cases k1 : kindAt us j ∈ [1, 2, 3, 4, 5]
      · rw [if_pos k1] at h; cases h; exact hn
      rw [if_neg k1] at h
      by_cases k2 : kindAt us j = 12
      · rw [if_pos k2] at h; exact (ih _ _ _ _ _ h).trans hn
      rw [if_neg k2] at h
      by_cases k3 : kindAt us j = 6
      · rw [if_pos k3] at h; exact (ih _ _ _ _ _ h).trans hn
      rw [if_neg k3] at h
      by_cases k4 : kindAt us j ∈ [7, 8]
      · rw [if_pos k4] at h; exact (ih _ _ _ _ _ h).trans hn
      rw [if_neg k4] at h
      by_cases k5 : kindAt us j ∈ [9, 10]
      · rw [if_pos k5] at h; exact (ih _ _ _ _ _ h).trans hn
      rw [if_neg k5] at h
      cases h; exact hn
    rw [if_neg t3] at h
    by_cases t4 : tag = 4
    · rw [if_pos t4] at h
      obtain ⟨r1, e1, ⟨h1, rfl⟩ | ⟨h1, h2⟩⟩ := and_cases h
      · exact ih _ _ _ _ _ e1
      have d1 := ih _ _ _ _ _ e1
      rcases wants_some h2 with ⟨_, rfl⟩ | ⟨_, h3⟩
      · exact d1
      obtain ⟨r2, e2, ⟨h4, rfl⟩ | ⟨h4, h5⟩⟩ := and_cases h3
      · exact (ih _ _ _ _ _ e2).trans d1
      have d2 := (ih _ _ _ _ _ e2).trans d1
      rcases wants_some h5 with ⟨_, rfl⟩ | ⟨_, h6⟩
      · exact d2
      exact (ih _ _ _ _ _ h6).trans d2
    rw [if_neg t4] at h
    by_cases t5 : tag = 5
    · rw [if_pos t5] at h
      rcases wants_some h with ⟨_, rfl⟩ | ⟨_, h⟩
      · rfl
      rcases wants_some h with ⟨_, rfl⟩ | ⟨_, h⟩
      · rfl
      rcases wants_some h with ⟨_, rfl⟩ | ⟨_, h⟩
      · rfl
      cases h; rfl
    rw [if_neg t5] at h
    by_cases t8 : d = 8
    · rw [if_pos t8] at h; cases h; rfl
    rw [if_neg t8] at h
    rcases wants_some h with ⟨_, rfl⟩ | ⟨_, h⟩
    · rfl
    obtain ⟨r1, e1, ⟨h1, rfl⟩ | ⟨h1, h2⟩⟩ := and_cases h
    · exact ih _ _ _ _ _ e1
    have d1 := ih _ _ _ _ _ e1
    rcases wants_some h2 with ⟨_, rfl⟩ | ⟨_, h3⟩
    · exact d1
    cases h3
    exact d1

theorem scn_small : ∀ (n : Nat) (l : List UInt8) (p : Nat), ∀ t ∈ (scn n l p).1, t.x.length ≤ l.length
  | 0, _, _, t, h => by simp [scn] at h
  | _ + 1, [], _, t, h => by simp [scn] at h
  | n + 1, c :: r, p, t, h => by
    unfold scn at h
    by_cases h1 : c = 32
    · rw [if_pos h1] at h
      have := scn_small n r (p + 1) t h
      simp only [List.length_cons]; omega
    rw [if_neg h1] at h
    by_cases h2 : (tok1 (c :: r)).1 = 0
    · rw [if_pos h2] at h; simp at h
    rw [if_neg h2] at h
    rcases List.mem_cons.1 h with rfl | h
    · simp only [List.length_take]; omega
    · have := scn_small n _ _ t h
      simp only [List.length_drop] at this
      omega

theorem txt_small {us ts : List Tk} (h : Txt us ts) (k : Nat) (hs : ∀ t ∈ ts, t.x.length ≤ k) : ∀ t ∈ us, t.x.length ≤ k := by
  intro t ht
  have : t.x ∈ ts.map (fun t => t.x) := by rw [← h]; exact List.mem_map_of_mem ht
  obtain ⟨u, hu, e⟩ := List.mem_map.1 this
  rw [← e]
  exact hs u hu

theorem rd_small (l : List UInt8) : ∀ t ∈ (rd l).ts, t.x.length ≤ 120 := by
  unfold rd
  by_cases h1 : 120 < l.length
  · rw [if_pos h1]; simp
  rw [if_neg h1]
  unfold rdA
  have hsm := scn_small l.length l 0
  cases h2 : (scn l.length l 0).2 with
  | some p => simp
  | none =>
    simp only
    cases h3 : prs (8 * (scn l.length l 0).1.length + 6) 0 (scn l.length l 0).1 0 0 with
    | none => simp
    | some r =>
      have ht := prs_txt _ _ _ _ _ _ h3
      simp only [rdP]
      split
      · simp
      · split
        · simp
        · exact txt_small ht 120 fun t h => Nat.le_trans (hsm t h) (by omega)
theorem rd_len (l : List UInt8) : (rd l).ts.length ≤ 120 := by
  unfold rd
  by_cases h1 : 120 < l.length
  · rw [if_pos h1]; simp
  rw [if_neg h1]
  unfold rdA
  have hsm := scn_len l.length l 0
  cases h2 : (scn l.length l 0).2 with
  | some p => simp
  | none =>
    simp only
    cases h3 : prs (8 * (scn l.length l 0).1.length + 6) 0 (scn l.length l 0).1 0 0 with
    | none => simp
    | some r =>
      have ht := congrArg List.length (prs_txt _ _ _ _ _ _ h3)
      simp only [List.length_map] at ht
      simp only [rdP]
      split
      · simp
      · split
        · simp
        · simp only; omega

def plT (l : List UInt8) : List UInt8 := if (rd l).e = 0 then (rd l).ts.flatMap ptk else []

end Go.Proofs.YtiocnfambeochaaGreatDoor

/- Plain mathematics: lists of tokens that the parser takes for an ATOM, a PRODUCT, a SUM, a FORMULA; and how they are put together. -/
namespace Go.Proofs.YtiocnfambeochaaGreatDoor

theorem and_mono {x x' : Option PR} {k k' : List Tk → Nat → Nat → Option PR} {r : PR} (hx : ∀ r, x = some r → x' = some r) (hk : ∀ ts i d r, k ts i d = some r → k' ts i d = some r)
    (h : andThen x k = some r) : andThen x' k' = some r := by
  obtain ⟨r1, e1, ⟨h1, rfl⟩ | ⟨h1, h2⟩⟩ := and_cases h
  · rw [hx _ e1]; simp [andThen, h1]
  · rw [hx _ e1]; simp only [andThen, h1, if_true]; exact hk _ _ _ _ h2
theorem wants_mono {q : Int} {ts : List Tk} {i d : Nat} {k k' : List Tk → Nat → Nat → Option PR} {r : PR} (hk : ∀ ts i d r, k ts i d = some r → k' ts i d = some r)
    (h : wants q ts i d k = some r) : wants q ts i d k' = some r := by
  unfold wants at h ⊢
  by_cases hq : kindAt ts i = q
  · rw [if_pos hq] at h ⊢; exact hk _ _ _ _ h
  · rw [if_neg hq] at h ⊢; exact h
theorem if_mono {c : Prop} [Decidable c] {x x' y : Option PR} {r : PR} (hx : ∀ r, x = some r → x' = some r) (h : (if c then x else y) = some r) : (if c then x' else y) = some r := by
  by_cases hc : c
  · rw [if_pos hc] at h ⊢; exact hx _ h
  · rw [if_neg hc] at h ⊢; exact h

theorem prs_succ : ∀ (f tag : Nat) (ts : List Tk) (i d : Nat) (r : PR), prs f tag ts i d = some r → prs (f + 1) tag ts i d = some r
  | 0, _, _, _, _, _, h => by simp [prs] at h
  | f + 1, tag, ts, i, d, r, h => by
    have ih := prs_succ f
    unfold prs at h ⊢
    by_cases t0 : tag = 0
    · rw [if_pos t0] at h ⊢
      exact and_mono (fun r h => ih _ _ _ _ _ h) (fun ts i d r h => if_mono (fun r h => ih _ _ _ _ _ h) h) h
    rw [if_neg t0] at h ⊢
    by_cases t1 : tag = 1
    · rw [if_pos t1] at h ⊢
      exact and_mono (fun r h => ih _ _ _ _ _ h) (fun ts i d r h => if_mono (fun r h => ih _ _ _ _ _ h) h) h
    rw [if_neg t1] at h ⊢
    by_cases t2 : tag = 2
    · rw [if_pos t2] at h ⊢
      exact and_mono (fun r h => ih _ _ _ _ _ h) (fun ts i d r h => if_mono (fun r h => ih _ _ _ _ _ h) h) h
    rw [if_neg t2] at h ⊢
    by_cases t3 : tag = 3
    · rw [if_pos t3] at h ⊢
      generalize (ngs 8 ts i).1 = us at *
      generalize (ngs 8 ts i).2 = j at *
      by_cases k1 : kindAt us j ∈ [1, 2, 3, 4, 5]
      · rw [if_pos k1] at h ⊢; exact h
      rw [if_neg k1] at h ⊢
      by_cases k2 : kindAt us j = 12
      · rw [if_pos k2] at h ⊢; exact ih _ _ _ _ _ h
      rw [if_neg k2] at h ⊢
      by_cases k3 : kindAt us j = 6
      · rw [if_pos k3] at h ⊢; exact ih _ _ _ _ _ h
      rw [if_neg k3] at h ⊢
      by_cases k4 : kindAt us j ∈ [7, 8]
      · rw [if_pos k4] at h ⊢; exact ih _ _ _ _ _ h
      rw [if_neg k4] at h ⊢
      exact if_mono (fun r h => ih _ _ _ _ _ h) h
    rw [if_neg t3] at h ⊢
    by_cases t4 : tag = 4
    · rw [if_pos t4] at h ⊢
      exact and_mono (fun r h => ih _ _ _ _ _ h) (fun ts i d r h => wants_mono (fun ts i d r h => and_mono (fun r h => ih _ _ _ _ _ h) (fun ts i d r h => wants_mono (fun ts i d r h => ih _ _ _ _ _ h) h) h) h) h
    rw [if_neg t4] at h ⊢
    by_cases t5 : tag = 5
    · rw [if_pos t5] at h ⊢; exact h
    rw [if_neg t5] at h ⊢
    by_cases t8 : d = 8
    · rw [if_pos t8] at h ⊢; exact h
    rw [if_neg t8] at h ⊢
    exact wants_mono (fun ts i d r h => and_mono (fun r h => ih _ _ _ _ _ h) (fun ts i d r h => h) h) h
theorem prs_le {f g tag : Nat} {ts : List Tk} {i d : Nat} {r : PR} (hfg : f ≤ g) (h : prs f tag ts i d = some r) : prs g tag ts i d = some r := by
  induction hfg with
  | refl => exact h
  | step _ ih => exact prs_succ _ _ _ _ _ _ ih

def unm (t : Tk) : Tk := { t with k := if t.k = 23 then 17 else t.k }

def goesOn (lv : Nat) : List Int := if lv = 3 then [] else if lv = 2 then [18, 19] else if lv = 1 then [18, 19, 16, 17, 20] else [18, 19, 16, 17, 20, 21, 22]

def Is (lv n : Nat) (g : List Tk) : Prop := ∀ (pre post : List Tk) (d : Nat), d + n ≤ 8 → ¬ kindAt post 0 ∈ goesOn lv →
  ∃ f, prs f lv (pre ++ (g.map unm ++ post)) pre.length d = some ⟨true, pre ++ (g ++ post), pre.length + g.length, d⟩

theorem kindAt_app (a b : List Tk) (j : Nat) : kindAt (a ++ b) (a.length + j) = kindAt b j := by
  unfold kindAt; rw [List.getElem?_append_right (by omega), Nat.add_sub_cancel_left]
theorem kindAt_app0 (a b : List Tk) : kindAt (a ++ b) a.length = kindAt b 0 := kindAt_app a b 0

theorem Is.more {lv n m : Nat} {g : List Tk} (h : Is lv n g) (hm : n ≤ m) : Is lv m g := fun pre post d hd hp => h pre post d (by omega) hp

theorem is_prod {n : Nat} {g : List Tk} (h : Is 3 n g) : Is 2 n g := by
  intro pre post d hd hp
  obtain ⟨f, hf⟩ := h pre post d hd (by simp [goesOn])
  refine ⟨f + 1, ?_⟩
  rw [prs2, hf]
  simp only [andThen, if_true]
  rw [← List.length_append, ← List.append_assoc, kindAt_app0, if_neg (by simpa [goesOn] using hp)]
theorem is_sum {n : Nat} {g : List Tk} (h : Is 2 n g) : Is 1 n g := by
  intro pre post d hd hp
  obtain ⟨f, hf⟩ := h pre post d hd (by revert hp; simp [goesOn] <;> omega)
  refine ⟨f + 1, ?_⟩
  rw [prs1, hf]
  simp only [andThen, if_true]
  rw [← List.length_append, ← List.append_assoc, kindAt_app0, if_neg (by revert hp; simp [goesOn] <;> omega)]
theorem is_form {n : Nat} {g : List Tk} (h : Is 1 n g) : Is 0 n g := by
  intro pre post d hd hp
  obtain ⟨f, hf⟩ := h pre post d hd (by revert hp; simp [goesOn] <;> omega)
  refine ⟨f + 1, ?_⟩
  rw [prs0, hf]
  simp only [andThen, if_true]
  rw [← List.length_append, ← List.append_assoc, kindAt_app0, if_neg (by revert hp; simp [goesOn] <;> omega)]

theorem unm_other {t : Tk} (h : t.k ≠ 23) : unm t = t := by unfold unm; rw [if_neg h]
theorem kindAt_cons (t : Tk) (r : List Tk) : kindAt (t :: r) 0 = t.k := rfl

theorem is_two {lv hi n : Nat} {ks : List Int} {a b : List Tk} {o : Tk} (ha : Is hi n a) (ho : o.k ∈ ks) (h23 : o.k ≠ 23) (hno : ¬ o.k ∈ goesOn hi)
    (hb : ∀ (pre post : List Tk) (d : Nat), d + n ≤ 8 → ¬ kindAt post 0 ∈ goesOn lv → ∃ f r, prs f r (pre ++ (b.map unm ++ post)) pre.length d = some ⟨true, pre ++ (b ++ post), pre.length + b.length, d⟩ ∧ r = (if lv = 0 then 1 else lv))
    (hp : ∀ (f : Nat) (ts : List Tk) (i d : Nat), prs (f + 1) lv ts i d = andThen (prs f hi ts i d) fun ts i d => if kindAt ts i ∈ ks then prs f (if lv = 0 then 1 else lv) ts (i + 1) d else some ⟨true, ts, i, d⟩) :
    Is lv n (a ++ o :: b) := by
  intro pre post d hd hpost
  obtain ⟨f1, e1⟩ := ha pre (o :: (b.map unm ++ post)) d hd (by rw [kindAt_cons]; exact hno)
  obtain ⟨f2, r, e2, rfl⟩ := hb (pre ++ (a ++ [o])) post d hd hpost
  refine ⟨max f1 f2 + 1, ?_⟩
  have e1' := prs_le (Nat.le_max_left f1 f2) e1
  have e2' := prs_le (Nat.le_max_right f1 f2) e2
  have l1 : pre ++ (List.map unm (a ++ o :: b) ++ post) = pre ++ (a.map unm ++ (o :: (b.map unm ++ post))) := by simp [unm_other h23]
  have l2 : pre ++ (a ++ o :: (b.map unm ++ post)) = (pre ++ (a ++ [o])) ++ (b.map unm ++ post) := by simp
  have l3 : pre.length + a.length + 1 = (pre ++ (a ++ [o])).length := by simp; omega
  rw [hp, l1, e1']
  simp only [andThen, if_true]
  have hk : kindAt (pre ++ (a ++ o :: (b.map unm ++ post))) (pre.length + a.length) = o.k := by
    rw [← List.length_append, ← List.append_assoc, kindAt_app0, kindAt_cons]
  rw [hk, if_pos ho, l3, l2, e2']
  simp
  omega

theorem is_mul {n : Nat} {a b : List Tk} {o : Tk} (ha : Is 3 n a) (hb : Is 2 n b) (ho : o.k ∈ [18, 19]) : Is 2 n (a ++ o :: b) :=
  is_two (hi := 3) (lv := 2) (ks := [18, 19]) ha ho (by intro h; rw [h] at ho; revert ho; decide) (by simp [goesOn])
    (fun pre post d hd hp => by obtain ⟨f, e⟩ := hb pre post d hd hp; exact ⟨f, 2, e, rfl⟩) (fun f ts i d => prs2 f ts i d)
theorem is_add {n : Nat} {a b : List Tk} {o : Tk} (ha : Is 2 n a) (hb : Is 1 n b) (ho : o.k ∈ [16, 17, 20]) : Is 1 n (a ++ o :: b) :=
  is_two (hi := 2) (lv := 1) (ks := [16, 17, 20]) ha ho (by intro h; rw [h] at ho; revert ho; decide) (by simp only [List.mem_cons, List.not_mem_nil, or_false] at ho; simp [goesOn]; omega)
    (fun pre post d hd hp => by obtain ⟨f, e⟩ := hb pre post d hd hp; exact ⟨f, 1, e, rfl⟩) (fun f ts i d => prs1 f ts i d)
theorem is_cmp {n : Nat} {a b : List Tk} {o : Tk} (ha : Is 1 n a) (hb : Is 1 n b) (ho : o.k ∈ [21, 22]) : Is 0 n (a ++ o :: b) :=
  is_two (hi := 1) (lv := 0) (ks := [21, 22]) ha ho (by intro h; rw [h] at ho; revert ho; decide) (by simp only [List.mem_cons, List.not_mem_nil, or_false] at ho; simp [goesOn]; omega)
    (fun pre post d hd hp => by obtain ⟨f, e⟩ := hb pre post d hd (by revert hp; simp [goesOn] <;> omega); exact ⟨f, 1, e, rfl⟩) (fun f ts i d => prs0 f ts i d)

theorem ngs_stop {n : Nat} {ts : List Tk} {i : Nat} (h : kindAt ts i ≠ 17) : ngs n ts i = (ts, i) := by
  cases n with
  | zero => rfl
  | succ n => unfold ngs; rw [if_neg h]

theorem is_one {t : Tk} (h : t.k ∈ [1, 2, 3, 4, 5]) : Is 3 0 [t] := by
  intro pre post d hd hp
  have h23 : t.k ≠ 23 := by intro e; rw [e] at h; revert h; decide
  have h17 : t.k ≠ 17 := by intro e; rw [e] at h; revert h; decide
  refine ⟨1, ?_⟩
  have hk : kindAt (pre ++ ([t].map unm ++ post)) pre.length = t.k := by rw [kindAt_app0, List.map_cons, unm_other h23]; rfl
  rw [prs3, ngs_stop (by rw [hk]; exact h17)]
  simp only
  rw [hk, if_pos h]
  simp [unm_other h23]

theorem mark_app : ∀ (pre : List Tk) (t : Tk) (r : List Tk), mark (pre ++ t :: r) pre.length = pre ++ { t with k := 23 } :: r
  | [], t, r => by simp [mark, List.modify_cons]
  | a :: p, t, r => by
    have := mark_app p t r
    unfold mark at this ⊢
    simp [this]


theorem is_br {n tag inner : Nat} {o c : Tk} {g : List Tk} (ho : o.k = 12) (hc : c.k = 13)
    (hp : ∀ (f : Nat) (ts : List Tk) (i d : Nat), prs (f + 1) tag ts i d = if d = 8 then some ⟨false, ts, i, d⟩
      else wants 12 ts i d fun ts i d => andThen (prs f inner ts i (d + 1)) fun ts i d => wants 13 ts i d fun ts i d => some ⟨true, ts, i, d - 1⟩)
    (hg : ∀ (pre post : List Tk) (d : Nat), d + n ≤ 8 → kindAt post 0 = 13 → ∃ f, prs f inner (pre ++ (g.map unm ++ post)) pre.length d = some ⟨true, pre ++ (g ++ post), pre.length + g.length, d⟩)
    (pre post : List Tk) (d : Nat) (hd : d + (n + 1) ≤ 8) : ∃ f, prs f tag (pre ++ ((o :: (g ++ [c])).map unm ++ post)) pre.length d = some ⟨true, pre ++ ((o :: (g ++ [c])) ++ post), pre.length + (g.length + 2), d⟩ := by
  have uo : unm o = o := unm_other (by rw [ho]; decide)
  have uc : unm c = c := unm_other (by rw [hc]; decide)
  obtain ⟨f, e⟩ := hg (pre ++ [o]) (c :: post) (d + 1) (by omega) (by rw [kindAt_cons]; exact hc)
  refine ⟨f + 1, ?_⟩
  have l1 : pre ++ ((o :: (g ++ [c])).map unm ++ post) = (pre ++ [o]) ++ (g.map unm ++ (c :: post)) := by simp [uo, uc]
  have hk : kindAt ((pre ++ [o]) ++ (g.map unm ++ (c :: post))) pre.length = 12 := by
    rw [List.append_assoc, kindAt_app0]; simpa [kindAt] using ho
  have l2 : pre.length + 1 = (pre ++ [o]).length := by simp
  rw [hp, if_neg (by omega), l1]
  unfold wants
  simp only
  rw [if_pos hk, l2, e]
  simp only [andThen, if_true]
  have hk2 : kindAt ((pre ++ [o]) ++ (g ++ (c :: post))) ((pre ++ [o]).length + g.length) = 13 := by
    rw [← List.length_append, ← List.append_assoc, kindAt_app0, kindAt_cons]; exact hc
  rw [if_pos hk2]
  simp
  omega

theorem form_in {n : Nat} {g : List Tk} (h : Is 0 n g) : ∀ (pre post : List Tk) (d : Nat), d + n ≤ 8 → kindAt post 0 = 13 → ∃ f, prs f 0 (pre ++ (g.map unm ++ post)) pre.length d = some ⟨true, pre ++ (g ++ post), pre.length + g.length, d⟩ :=
  fun pre post d hd hp => h pre post d hd (by rw [hp]; simp [goesOn])

theorem is_bracket {n : Nat} {o c : Tk} {g : List Tk} (ho : o.k = 12) (hc : c.k = 13) (h : Is 0 n g) : Is 3 (n + 1) (o :: (g ++ [c])) := by
  intro pre post d hd hp
  obtain ⟨f, e⟩ := is_br ho hc prs6 (form_in h) pre post d hd
  refine ⟨f + 1, ?_⟩
  have uo : unm o = o := unm_other (by rw [ho]; decide)
  have hk : kindAt (pre ++ ((o :: (g ++ [c])).map unm ++ post)) pre.length = 12 := by rw [kindAt_app0, List.map_cons, uo]; exact ho
  rw [prs3, ngs_stop (by rw [hk]; decide)]
  simp only
  rw [hk, if_neg (by decide), if_pos rfl, e]
  simp

theorem is_word {n tag inner : Nat} {wd o c : Tk} {g : List Tk} (h23 : wd.k ≠ 23) (ho : o.k = 12) (hc : c.k = 13)
    (hp : ∀ (f : Nat) (ts : List Tk) (i d : Nat), prs (f + 1) tag ts i d = if d = 8 then some ⟨false, ts, i, d⟩
      else wants 12 ts i d fun ts i d => andThen (prs f inner ts i (d + 1)) fun ts i d => wants 13 ts i d fun ts i d => some ⟨true, ts, i, d - 1⟩)
    (hg : ∀ (pre post : List Tk) (d : Nat), d + n ≤ 8 → kindAt post 0 = 13 → ∃ f, prs f inner (pre ++ (g.map unm ++ post)) pre.length d = some ⟨true, pre ++ (g ++ post), pre.length + g.length, d⟩)
    (ha : ∀ (f : Nat) (ts : List Tk) (i d : Nat), kindAt ts i = wd.k → prs (f + 1) 3 ts i d = prs f tag ts (i + 1) d) : Is 3 (n + 1) (wd :: o :: (g ++ [c])) := by
  intro pre post d hd hpost
  obtain ⟨f, e⟩ := is_br ho hc hp hg (pre ++ [wd]) post d hd
  refine ⟨f + 1, ?_⟩
  have uw : unm wd = wd := unm_other h23
  have l1 : pre ++ ((wd :: o :: (g ++ [c])).map unm ++ post) = (pre ++ [wd]) ++ ((o :: (g ++ [c])).map unm ++ post) := by simp [uw]
  have hk : kindAt ((pre ++ [wd]) ++ ((o :: (g ++ [c])).map unm ++ post)) pre.length = wd.k := by rw [List.append_assoc, kindAt_app0]; rfl
  have l2 : pre.length + 1 = (pre ++ [wd]).length := by simp
  rw [l1, ha f _ _ _ hk, l2, e]
  simp
  omega

theorem atom_word {wd : Int} (f : Nat) (ts : List Tk) (i d : Nat) (h : kindAt ts i = wd) (h17 : wd ≠ 17) : prs (f + 1) 3 ts i d =
    if wd ∈ [1, 2, 3, 4, 5] then some ⟨true, ts, i + 1, d⟩ else if wd = 12 then prs f 6 ts i d else if wd = 6 then prs f 7 ts (i + 1) d
    else if wd ∈ [7, 8] then prs f 6 ts (i + 1) d else if wd ∈ [9, 10] then prs f 8 ts (i + 1) d else some ⟨false, ts, i, d⟩ := by
  rw [prs3, ngs_stop (by rw [h]; exact h17)]
  simp only
  rw [h]

theorem is_call {n : Nat} {wd o c : Tk} {g : List Tk} (hw : wd.k ∈ [7, 8]) (ho : o.k = 12) (hc : c.k = 13) (h : Is 0 n g) : Is 3 (n + 1) (wd :: o :: (g ++ [c])) := by
  have hw' : wd.k = 7 ∨ wd.k = 8 := by simpa using hw
  refine is_word (by omega) ho hc prs6 (form_in h) fun f ts i d hk => ?_
  rw [atom_word f ts i d hk (by omega), if_neg (by simp; omega), if_neg (by omega), if_neg (by omega), if_pos hw]

theorem is_if {n : Nat} {wd o c m1 m2 : Tk} {a b g : List Tk} (hw : wd.k = 6) (ho : o.k = 12) (hc : c.k = 13) (hm1 : m1.k = 14) (hm2 : m2.k = 14) (ha : Is 0 n a) (hb : Is 0 n b) (hg : Is 0 n g) :
    Is 3 (n + 1) (wd :: o :: ((a ++ m1 :: (b ++ m2 :: g)) ++ [c])) := by
  refine is_word (by omega) ho hc prs7 (fun pre post d hd hp => ?_) fun f ts i d hk => ?_
  · have u1 : unm m1 = m1 := unm_other (by rw [hm1]; decide)
    have u2 : unm m2 = m2 := unm_other (by rw [hm2]; decide)
    obtain ⟨f1, e1⟩ := ha pre (m1 :: (b.map unm ++ (m2 :: (g.map unm ++ post)))) d hd (by rw [kindAt_cons, hm1]; simp [goesOn])
    obtain ⟨f2, e2⟩ := hb (pre ++ (a ++ [m1])) (m2 :: (g.map unm ++ post)) d hd (by rw [kindAt_cons, hm2]; simp [goesOn])
    obtain ⟨f3, e3⟩ := hg (pre ++ (a ++ [m1]) ++ (b ++ [m2])) post d hd (by rw [hp]; simp [goesOn])
    refine ⟨max f1 (max f2 f3) + 1, ?_⟩
    have e1' := prs_le (show f1 ≤ max f1 (max f2 f3) by omega) e1
    have e2' := prs_le (show f2 ≤ max f1 (max f2 f3) by omega) e2
    have e3' := prs_le (show f3 ≤ max f1 (max f2 f3) by omega) e3
    have l1 : pre ++ (List.map unm (a ++ m1 :: (b ++ m2 :: g)) ++ post) = pre ++ (a.map unm ++ (m1 :: (b.map unm ++ (m2 :: (g.map unm ++ post))))) := by simp [u1, u2]
    have l2 : pre ++ (a ++ m1 :: (b.map unm ++ (m2 :: (g.map unm ++ post)))) = (pre ++ (a ++ [m1])) ++ (b.map unm ++ (m2 :: (g.map unm ++ post))) := by simp
    have l3 : pre.length + a.length + 1 = (pre ++ (a ++ [m1])).length := by simp; omega
    have l4 : (pre ++ (a ++ [m1])) ++ (b ++ m2 :: (g.map unm ++ post)) = (pre ++ (a ++ [m1]) ++ (b ++ [m2])) ++ (g.map unm ++ post) := by simp
    have l5 : (pre ++ (a ++ [m1])).length + b.length + 1 = (pre ++ (a ++ [m1]) ++ (b ++ [m2])).length := by simp; omega
    have k1 : kindAt (pre ++ (a ++ m1 :: (b.map unm ++ (m2 :: (g.map unm ++ post))))) (pre.length + a.length) = 14 := by
      rw [← List.length_append, ← List.append_assoc, kindAt_app0, kindAt_cons]; exact hm1
    have k2 : kindAt ((pre ++ (a ++ [m1])) ++ (b ++ m2 :: (g.map unm ++ post))) ((pre ++ (a ++ [m1])).length + b.length) = 14 := by
      rw [← List.length_append, ← List.append_assoc, kindAt_app0, kindAt_cons]; exact hm2
    rw [prs4, l1, e1']
    simp only [andThen, if_true]
    unfold wants
    rw [if_pos k1, l3, l2]
    dsimp only
    rw [e2']
    simp only [if_true]
    rw [if_pos k2, l5, l4, e3']
    simp
    omega
  · rw [atom_word f ts i d hk (by omega), hw, if_neg (by decide), if_neg (by decide), if_pos rfl]

theorem is_range {wd o c a m b : Tk} (hw : wd.k ∈ [9, 10]) (ho : o.k = 12) (hc : c.k = 13) (ha : a.k = 5) (hm : m.k = 15) (hb : b.k = 5) : Is 3 1 (wd :: o :: ([a, m, b] ++ [c])) := by
  have hw' : wd.k = 9 ∨ wd.k = 10 := by simpa using hw
  refine is_word (n := 0) (by omega) ho hc prs8 (fun pre post d hd hp => ?_) fun f ts i d hk => ?_
  · have u1 : unm a = a := unm_other (by rw [ha]; decide)
    have u2 : unm m = m := unm_other (by rw [hm]; decide)
    have u3 : unm b = b := unm_other (by rw [hb]; decide)
    refine ⟨1, ?_⟩
    have l1 : pre ++ ([a, m, b].map unm ++ post) = pre ++ ([a, m, b] ++ post) := by simp [u1, u2, u3]
    have k1 : kindAt (pre ++ ([a, m, b] ++ post)) pre.length = 5 := by rw [kindAt_app0]; exact ha
    have k2 : kindAt (pre ++ ([a, m, b] ++ post)) (pre.length + 1) = 15 := by rw [kindAt_app]; exact hm
    have k3 : kindAt (pre ++ ([a, m, b] ++ post)) (pre.length + 1 + 1) = 5 := by rw [show pre.length + 1 + 1 = pre.length + 2 from rfl, kindAt_app]; exact hb
    rw [prs5, l1]
    unfold wants
    rw [if_pos k1]
    dsimp only
    rw [if_pos k2, if_pos k3]
    simp
  · rw [atom_word f ts i d hk (by omega), if_neg (by simp; omega), if_neg (by omega), if_neg (by omega), if_neg (by simp; omega), if_pos hw]
end Go.Proofs.YtiocnfambeochaaGreatDoor

/- Plain mathematics: texts whose tokens are known: with blanks between them or not. -/
namespace Go.Proofs.YtiocnfambeochaaGreatDoor

def ldHead (l : List UInt8) : Bool := match l with | [] => false | c :: _ => ldB (c.toNat : Int)

structure TO (k : Int) (x : List UInt8) : Prop where
  k0 : k ≠ 0
  head : ∃ c r, x = c :: r ∧ c ≠ 32
  tok : ∀ s, (ldHead x = true → ldHead s = false) → tok1 (x ++ s) = (k, x.length)

def SC (s : List UInt8) (kx : List (Int × List UInt8)) : Prop := ∀ (p n : Nat), s.length ≤ n → ∃ ts : List Tk, scn n s p = (ts, none) ∧ ts.map (fun t => (t.k, t.x)) = kx

theorem sc_nil : SC [] [] := fun p n _ => ⟨[], scn_nil n p, rfl⟩
theorem sc_blank {s : List UInt8} {kx : List (Int × List UInt8)} (h : SC s kx) : SC (32 :: s) kx := by
  intro p n hn
  obtain ⟨m, rfl⟩ : ∃ m, n = m + 1 := ⟨n - 1, by simp only [List.length_cons] at hn; omega⟩
  obtain ⟨ts, e1, e2⟩ := h (p + 1) m (by simp only [List.length_cons] at hn; omega)
  exact ⟨ts, by rw [scn, if_pos rfl]; exact e1, e2⟩
theorem sc_tok {k : Int} {x s : List UInt8} {kx : List (Int × List UInt8)} (hx : TO k x) (hb : ldHead x = true → ldHead s = false) (h : SC s kx) : SC (x ++ s) ((k, x) :: kx) := by
  intro p n hn
  obtain ⟨c, r, hc, hc32⟩ := hx.head
  have htok := hx.tok s hb
  have hlen : x.length = r.length + 1 := by rw [hc]; rfl
  rw [List.length_append] at hn
  obtain ⟨m, rfl⟩ : ∃ m, n = m + 1 := ⟨n - 1, by omega⟩
  obtain ⟨ts, e1, e2⟩ := h (p + x.length) m (by omega)
  refine ⟨⟨k, x, p⟩ :: ts, ?_, by simp [e2]⟩
  rw [scn_tok m (x ++ s) p c (by rw [hc]; rfl) hc32 (by rw [htok]; exact hx.k0), htok]
  simp [e1]

def Good : List Tk → Prop
  | [] => True
  | t :: r => TO (unm t).k t.x ∧ (t.k = 1 → nzT t.x = t.x) ∧ (ldHead t.x = true → match r with | [] => True | u :: _ => ldHead u.x = false) ∧ Good r

def kxs (g : List Tk) : List (Int × List UInt8) := g.map fun t => ((unm t).k, t.x)

theorem ldHead_app {a b : List UInt8} (h : a ≠ []) : ldHead (a ++ b) = ldHead a := by
  match a, h with
  | c :: r, _ => rfl

theorem sc_blanks {s : List UInt8} {kx : List (Int × List UInt8)} (h : SC s kx) : ∀ b : Nat, SC (List.replicate b 32 ++ s) kx
  | 0 => h
  | b + 1 => by rw [List.replicate_succ, List.cons_append]; exact sc_blank (sc_blanks h b)

theorem to_ne {k : Int} {x : List UInt8} (h : TO k x) : x ≠ [] := by
  obtain ⟨c, r, hc, _⟩ := h.head
  rw [hc]; simp


theorem ptk_parts (t : Tk) (h : t.k = 1 → nzT t.x = t.x) : ∃ a b, a ≤ 1 ∧ ptk t = List.replicate a 32 ++ (t.x ++ List.replicate b 32) := by
  unfold ptk
  by_cases h1 : t.k = 1
  · rw [if_pos h1, h h1]; exact ⟨0, 0, by omega, by simp⟩
  rw [if_neg h1]
  by_cases h2 : t.k ∈ [16, 17, 18, 19, 20, 21, 22]
  · rw [if_pos h2]; exact ⟨1, 1, by omega, by simp⟩
  rw [if_neg h2]
  by_cases h3 : t.k = 14
  · rw [if_pos h3]; exact ⟨0, 1, by omega, by simp⟩
  rw [if_neg h3]; exact ⟨0, 0, by omega, by simp⟩

theorem sc_plain : ∀ g : List Tk, Good g → SC (g.flatMap ptk) (kxs g)
  | [], _ => sc_nil
  | t :: r, h => by
    obtain ⟨h1, h2, h3, h4⟩ := h
    have ih := sc_plain r h4
    obtain ⟨a, b, _, e⟩ := ptk_parts t h2
    rw [List.flatMap_cons, e, List.append_assoc, List.append_assoc]
    refine sc_blanks (sc_tok h1 (fun hl => ?_) (sc_blanks ih b)) a
    cases b with
    | succ b => rfl
    | zero =>
      have h3 := h3 hl
      match r, h3, h4 with
      | [], _, _ => rfl
      | u :: r', h3, h4 =>
        have hu := to_ne h4.1
        obtain ⟨a', b', _, e'⟩ := ptk_parts u h4.2.1
        simp only [List.replicate_zero, List.nil_append, List.flatMap_cons]
        rw [e', List.append_assoc, List.append_assoc]
        cases a' with
        | succ a' => rfl
        | zero =>
          simp only [List.replicate_zero, List.nil_append]
          rw [ldHead_app hu]
          exact h3

/- Which texts are tokens. -/
def hdNot (p : Int → Bool) (s : List UInt8) : Prop := match s with | [] => True | c :: _ => p (c.toNat : Int) = false
theorem spn_all (p : Int → Bool) : ∀ (x s : List UInt8), (∀ c ∈ x, p (c.toNat : Int) = true) → hdNot p s → spn p (x ++ s) = x.length
  | [], [], _, _ => rfl
  | [], c :: _, _, h => by
    have h : p (c.toNat : Int) = false := h
    show spn p (c :: _) = 0
    rw [spn, if_neg (by simp [h])]
  | a :: r, s, h, hs => by
    rw [List.cons_append, spn, if_pos (h a List.mem_cons_self), spn_all p r s (fun c hc => h c (List.mem_cons_of_mem _ hc)) hs, List.length_cons]

theorem to_sign (c : UInt8) (h0 : sgnI (c.toNat : Int) ≠ 0) (hd : dgB (c.toNat : Int) = false) (hl : ltB (c.toNat : Int) = false) (hq : c ≠ 34) (hb : c ≠ 32) : TO (sgnI (c.toNat : Int)) [c] where
  k0 := h0
  head := ⟨c, [], rfl, hb⟩
  tok := fun s _ => by
    rw [List.singleton_append, tok1_cons, hd, hl, if_neg (by simp), if_neg (by simp), if_neg hq]; rfl

theorem ldHead_next {s : List UInt8} (h : ldHead s = false) : hdNot ldB s := by
  cases s with
  | nil => trivial
  | cons c r => exact h
theorem ldHead_digit {s : List UInt8} (h : ldHead s = false) : hdNot dgB s := by
  cases s with
  | nil => trivial
  | cons c r =>
    have h : ldB (c.toNat : Int) = false := h
    unfold ldB at h
    exact (by simpa using h : ltB (c.toNat : Int) = false ∧ dgB (c.toNat : Int) = false).2

theorem to_word (c : UInt8) (r : List UInt8) (hc : ltB (c.toNat : Int) = true) (hr : ∀ a ∈ c :: r, ldB (a.toNat : Int) = true) (h5 : r.length ≤ 4) (h0 : wrdI (c :: r) ≠ 0) : TO (wrdI (c :: r)) (c :: r) where
  k0 := h0
  head := ⟨c, r, rfl, fun e => by rw [e] at hc; revert hc; decide⟩
  tok := fun s hs => by
    have hd : dgB (c.toNat : Int) = false := by
      unfold ltB dgB at *
      simp only [decide_eq_true_eq, decide_eq_false_iff_not] at *
      omega
    have hsp := spn_all ldB (c :: r) s hr (ldHead_next (hs (by show ldB _ = true; exact hr c List.mem_cons_self)))
    rw [List.cons_append, tok1_cons, hd, if_neg (by simp), hc, if_pos rfl]
    unfold wdI
    rw [← List.cons_append, hsp, if_neg (by simp only [List.length_cons]; omega), List.take_left' rfl]

theorem to_num (c : UInt8) (r : List UInt8) (hr : ∀ a ∈ c :: r, dgB (a.toNat : Int) = true) (h19 : r.length ≤ 18) (hv : valN (c :: r) ≤ 9223372036854775807) : TO 1 (c :: r) where
  k0 := by decide
  head := ⟨c, r, rfl, fun e => by have := hr c List.mem_cons_self; rw [e] at this; revert this; decide⟩
  tok := fun s hs => by
    have hd := hr c List.mem_cons_self
    have hsp := spn_all dgB (c :: r) s hr (ldHead_digit (hs (by show ldB _ = true; unfold ldB; rw [hd]; simp)))
    rw [List.cons_append, tok1_cons, hd, if_pos rfl]
    unfold numI
    rw [← List.cons_append, hsp, if_neg (by simp only [List.length_cons]; omega), List.take_left' rfl, if_neg (by omega)]

theorem to_text (r : List UInt8) (hr : ∀ a ∈ r, pbB (a.toNat : Int) = true) (h20 : r.length ≤ 20) : TO 2 (34 :: (r ++ [34])) where
  k0 := by decide
  head := ⟨34, r ++ [34], rfl, by decide⟩
  tok := fun s _ => by
    have hsp := spn_all pbB r (34 :: s) hr (by show pbB _ = false; decide)
    have e : (34 :: (r ++ [34])) ++ s = 34 :: (r ++ 34 :: s) := by simp
    rw [e, tok1_cons, if_neg (by decide), if_neg (by decide), if_pos rfl]
    unfold qtT qtI
    rw [List.drop_succ_cons, List.drop_zero, hsp, if_pos ⟨by simp, h20⟩]
    simp
end Go.Proofs.YtiocnfambeochaaGreatDoor

/- Plain mathematics: a text whose tokens are known, and are a formula, has its plain form. -/
namespace Go.Proofs.YtiocnfambeochaaGreatDoor

def kx (t : Tk) : Int × List UInt8 := (t.k, t.x)
def Sim (ts us : List Tk) : Prop := ts.map kx = us.map kx

theorem Sim.len {ts us : List Tk} (h : Sim ts us) : ts.length = us.length := by simpa using congrArg List.length h
theorem Sim.get {ts us : List Tk} (h : Sim ts us) (i : Nat) : (ts[i]?).map kx = (us[i]?).map kx := by
  rw [← List.getElem?_map, ← List.getElem?_map, h]
theorem Sim.kind {ts us : List Tk} (h : Sim ts us) (i : Nat) : kindAt ts i = kindAt us i := by
  have := h.get i
  unfold kindAt
  cases h1 : ts[i]? <;> cases h2 : us[i]? <;> rw [h1, h2] at this <;> simp [kx] at this ⊢
  exact this.1
theorem mark_kx (ts : List Tk) (i : Nat) : (mark ts i).map kx = (ts.map kx).modify i fun q => (23, q.2) := by
  unfold mark
  induction ts generalizing i with
  | nil => simp
  | cons a r ih =>
    cases i with
    | zero => simp [List.modify_cons, kx]
    | succ i => simp [ih i]
theorem Sim.mark {ts us : List Tk} (h : Sim ts us) (i : Nat) : Sim (YtiocnfambeochaaGreatDoor.mark ts i) (YtiocnfambeochaaGreatDoor.mark us i) := by
  unfold Sim; rw [mark_kx, mark_kx, h]
theorem Sim.ngs : ∀ (n : Nat) {ts us : List Tk} (_ : Sim ts us) (i : Nat), Sim (YtiocnfambeochaaGreatDoor.ngs n ts i).1 (YtiocnfambeochaaGreatDoor.ngs n us i).1 ∧ (YtiocnfambeochaaGreatDoor.ngs n ts i).2 = (YtiocnfambeochaaGreatDoor.ngs n us i).2
  | 0, _, _, h, _ => ⟨h, rfl⟩
  | n + 1, ts, us, h, i => by
    unfold YtiocnfambeochaaGreatDoor.ngs
    rw [h.kind i]
    by_cases hk : kindAt us i = 17
    · rw [if_pos hk, if_pos hk]; exact Sim.ngs n (h.mark i) (i + 1)
    · rw [if_neg hk, if_neg hk]; exact ⟨h, rfl⟩

def SimR (a b : Option PR) : Prop := match a, b with
  | none, none => True
  | some r, some q => r.ok = q.ok ∧ r.i = q.i ∧ r.d = q.d ∧ Sim r.ts q.ts
  | _, _ => False
theorem and_sim {x y : Option PR} {k l : List Tk → Nat → Nat → Option PR} (hx : SimR x y) (hk : ∀ ts us i d, Sim ts us → SimR (k ts i d) (l us i d)) : SimR (andThen x k) (andThen y l) := by
  match x, y, hx with
  | none, none, _ => trivial
  | some r, some q, ⟨h1, h2, h3, h4⟩ =>
    unfold andThen
    simp only
    rw [h1]
    cases q.ok
    · simp only [Bool.false_eq_true, if_false]; exact ⟨h1, h2, h3, h4⟩
    · simp only [if_true]; rw [h2, h3]; exact hk _ _ _ _ h4
theorem wants_sim {q : Int} {ts us : List Tk} {i d : Nat} {k l : List Tk → Nat → Nat → Option PR} (h : Sim ts us) (hk : ∀ ts us i d, Sim ts us → SimR (k ts i d) (l us i d)) : SimR (wants q ts i d k) (wants q us i d l) := by
  unfold wants
  rw [h.kind i]
  by_cases hq : kindAt us i = q
  · rw [if_pos hq, if_pos hq]; exact hk _ _ _ _ h
  · rw [if_neg hq, if_neg hq]; exact ⟨rfl, rfl, rfl, h⟩
theorem loop_sim {ks : List Int} {ts us : List Tk} {i d : Nat} {x y : Option PR} (h : Sim ts us) (hx : SimR x y) : SimR (if kindAt ts i ∈ ks then x else some ⟨true, ts, i, d⟩) (if kindAt us i ∈ ks then y else some ⟨true, us, i, d⟩) := by
  rw [h.kind i]
  by_cases hq : kindAt us i ∈ ks
  · rw [if_pos hq, if_pos hq]; exact hx
  · rw [if_neg hq, if_neg hq]; exact ⟨rfl, rfl, rfl, h⟩

theorem prs_sim : ∀ (f tag : Nat) (ts us : List Tk) (i d : Nat), Sim ts us → SimR (prs f tag ts i d) (prs f tag us i d)
  | 0, _, _, _, _, _, _ => trivial
  | f + 1, tag, ts, us, i, d, h => by
    have ih := prs_sim f
    unfold prs
    by_cases t0 : tag = 0
    · rw [if_pos t0, if_pos t0]; exact and_sim (ih _ _ _ _ _ h) fun ts us i d h => loop_sim h (ih _ _ _ _ _ h)
    rw [if_neg t0, if_neg t0]
    by_cases t1 : tag = 1
    · rw [if_pos t1, if_pos t1]; exact and_sim (ih _ _ _ _ _ h) fun ts us i d h => loop_sim h (ih _ _ _ _ _ h)
    rw [if_neg t1, if_neg t1]
    by_cases t2 : tag = 2
    · rw [if_pos t2, if_pos t2]; exact and_sim (ih _ _ _ _ _ h) fun ts us i d h => loop_sim h (ih _ _ _ _ _ h)
    rw [if_neg t2, if_neg t2]
    by_cases t3 : tag = 3
    · rw [if_pos t3, if_pos t3]
      obtain ⟨n1, n2⟩ := Sim.ngs 8 h i
      rw [n2, n1.kind]
      generalize (YtiocnfambeochaaGreatDoor.ngs 8 ts i).1 = a at *
      generalize (YtiocnfambeochaaGreatDoor.ngs 8 us i).1 = b at *
      generalize (YtiocnfambeochaaGreatDoor.ngs 8 us i).2 = j at *
      by_cases k1 : kindAt b j ∈ [1, 2, 3, 4, 5]
      · rw [if_pos k1, if_pos k1]; exact ⟨rfl, rfl, rfl, n1⟩
      rw [if_neg k1, if_neg k1]
      by_cases k2 : kindAt b j = 12
      · rw [if_pos k2, if_pos k2]; exact ih _ _ _ _ _ n1
      rw [if_neg k2, if_neg k2]
      by_cases k3 : kindAt b j = 6
      · rw [if_pos k3, if_pos k3]; exact ih _ _ _ _ _ n1
      rw [if_neg k3, if_neg k3]
      by_cases k4 : kindAt b j ∈ [7, 8]
      · rw [if_pos k4, if_pos k4]; exact ih _ _ _ _ _ n1
      rw [if_neg k4, if_neg k4]
      by_cases k5 : kindAt b j ∈ [9, 10]
      · rw [if_pos k5, if_pos k5]; exact ih _ _ _ _ _ n1
      rw [if_neg k5, if_neg k5]
      exact ⟨rfl, rfl, rfl, n1⟩
    rw [if_neg t3, if_neg t3]
    by_cases t4 : tag = 4
    · rw [if_pos t4, if_pos t4]
      exact and_sim (ih _ _ _ _ _ h) fun ts us i d h => wants_sim h fun ts us i d h => and_sim (ih _ _ _ _ _ h) fun ts us i d h => wants_sim h fun ts us i d h => ih _ _ _ _ _ h
    rw [if_neg t4, if_neg t4]
    by_cases t5 : tag = 5
    · rw [if_pos t5, if_pos t5]
      exact wants_sim h fun ts us i d h => wants_sim h fun ts us i d h => wants_sim h fun ts us i d h => ⟨rfl, rfl, rfl, h⟩
    rw [if_neg t5, if_neg t5]
    by_cases t8 : d = 8
    · rw [if_pos t8, if_pos t8]; exact ⟨rfl, rfl, rfl, h⟩
    rw [if_neg t8, if_neg t8]
    exact wants_sim h fun ts us i d h => and_sim (ih _ _ _ _ _ h) fun ts us i d h => wants_sim h fun ts us i d h => ⟨rfl, rfl, rfl, h⟩

theorem chk_sim : ∀ (n : Nat) (ts us : List Tk), Sim ts us → chk n ts = none → chk n us = none
  | 0, _, _, _, _ => rfl
  | n + 1, [], [], _, _ => rfl
  | n + 1, [], u :: us, h, _ => by simp [Sim] at h
  | n + 1, t :: ts, [], h, _ => by simp [Sim] at h
  | n + 1, t :: ts, u :: us, h, hc => by
    have hk : t.k = u.k := by simpa [kindAt] using h.kind 0
    have hx : t.x = u.x := by
      have := h.get 0
      simp [kx] at this
      exact this.2
    have hr : Sim ts us := by
      unfold Sim at h ⊢
      simp only [List.map_cons, List.cons.injEq] at h
      exact h.2
    have hd : Sim (ts.drop 2) (us.drop 2) := by unfold Sim at hr ⊢; rw [List.map_drop, List.map_drop, hr]
    have hR : isR (t :: ts) = isR (u :: us) := by unfold isR; rw [h.kind 1, h.len]
    have hT : txtAt (t :: ts) 2 = txtAt (u :: us) 2 := by
      have := h.get 2
      unfold txtAt
      cases h1 : (t :: ts)[2]? <;> cases h2 : (u :: us)[2]? <;> rw [h1, h2] at this <;> simp [kx] at this ⊢
      exact this.2
    unfold chk at hc ⊢
    rw [hk, hx, hR, hT] at hc
    by_cases k5 : u.k ≠ 5
    · rw [if_pos k5] at hc ⊢; exact chk_sim n _ _ hr hc
    rw [if_neg k5] at hc ⊢
    by_cases kr : isR (u :: us) = true
    · rw [if_pos kr] at hc ⊢
      by_cases kb : badA (cn u.x) (cn (txtAt (u :: us) 2)) = true
      · rw [if_pos kb] at hc; cases hc
      · rw [if_neg kb] at hc ⊢; exact chk_sim n _ _ hd hc
    · rw [if_neg kr] at hc ⊢
      by_cases kc : (cn u.x).2 = true
      · rw [if_pos kc] at hc ⊢; exact chk_sim n _ _ hr hc
      · rw [if_neg kc] at hc; cases hc

theorem ptk_kx {t u : Tk} (h : kx t = kx u) : ptk t = ptk u := by
  simp only [kx, Prod.mk.injEq] at h
  unfold ptk
  rw [h.1, h.2]
theorem flat_sim : ∀ {ts us : List Tk}, Sim ts us → ts.flatMap ptk = us.flatMap ptk
  | [], [], _ => rfl
  | [], _ :: _, h => by simp [Sim] at h
  | _ :: _, [], h => by simp [Sim] at h
  | t :: ts, u :: us, h => by
    unfold Sim at h
    simp only [List.map_cons, List.cons.injEq] at h
    rw [List.flatMap_cons, List.flatMap_cons, ptk_kx h.1, flat_sim (show Sim ts us from h.2)]

end Go.Proofs.YtiocnfambeochaaGreatDoor
