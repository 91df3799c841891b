/- The plain parser comes to an end: so many steps are enough. -/
import Derived.Test.YtabcicijjdggdaaDoorPrsE
namespace Go.Proofs.YtabcicijjdggdaaDoor
open Go.RowKit

def rk (tag : Nat) : Nat := if tag = 4 then 6 else if tag = 0 then 5 else if tag = 1 then 4 else if tag = 2 then 3 else if tag = 3 then 2 else if tag = 5 then 0 else 1

theorem ngs_facts : ∀ (n : Nat) (ts : List Tk) (i : Nat), i ≤ ts.length → i ≤ (ngs n ts i).2 ∧ (ngs n ts i).2 ≤ ts.length ∧ (ngs n ts i).1.length = ts.length
  | 0, ts, i, h => ⟨Nat.le_refl _, h, rfl⟩
  | n + 1, ts, i, h => by
    unfold ngs
    by_cases hk : kindAt ts i = 17
    · rw [if_pos hk]
      have hl := kindAt_lt (ts := ts) (i := i) (by rw [hk]; decide)
      have := ngs_facts n (mark ts i) (i + 1) (by rw [mark_len]; omega)
      rw [mark_len] at this
      omega
    · rw [if_neg hk]; exact ⟨Nat.le_refl _, h, rfl⟩

/-- What the parser leaves is within bounds. -/
def Fine (ts : List Tk) (i : Nat) (r : PR) : Prop := i ≤ r.i ∧ r.i ≤ ts.length ∧ r.ts.length = ts.length

theorem and_fine {x : Option PR} {k : List Tk → Nat → Nat → Option PR} {ts : List Tk} {i : Nat} (hx : ∃ r, x = some r ∧ Fine ts i r)
    (hk : ∀ us j d, us.length = ts.length → i ≤ j → j ≤ ts.length → ∃ r, k us j d = some r ∧ Fine us j r) : ∃ r, andThen x k = some r ∧ Fine ts i r := by
  obtain ⟨r, rfl, h1, h2, h3⟩ := hx
  unfold andThen
  by_cases hok : r.ok = true
  · simp only [hok, if_true]
    obtain ⟨r2, e2, g1, g2, g3⟩ := hk r.ts r.i r.d h3 h1 h2
    exact ⟨r2, e2, by omega, by omega, by omega⟩
  · simp only [hok, Bool.false_eq_true, if_false]
    exact ⟨r, rfl, h1, h2, h3⟩
theorem wants_fine {q : Int} (hq : q ≠ 0) {ts : List Tk} {i d : Nat} {k : List Tk → Nat → Nat → Option PR} (hi : i ≤ ts.length)
    (hk : i + 1 ≤ ts.length → ∃ r, k ts (i + 1) d = some r ∧ Fine ts (i + 1) r) : ∃ r, wants q ts i d k = some r ∧ Fine ts i r := by
  unfold wants
  by_cases h : kindAt ts i = q
  · rw [if_pos h]
    obtain ⟨r, e, g1, g2, g3⟩ := hk (kindAt_lt (by rw [h]; exact hq))
    exact ⟨r, e, by omega, g2, g3⟩
  · rw [if_neg h]; exact ⟨_, rfl, Nat.le_refl _, hi, rfl⟩

theorem if_fine {ks : List Int} (h0 : ¬ (0 : Int) ∈ ks) {ts : List Tk} {i d : Nat} {y : Option PR} (hi : i ≤ ts.length)
    (hk : i + 1 ≤ ts.length → ∃ r, y = some r ∧ Fine ts (i + 1) r) : ∃ r, (if kindAt ts i ∈ ks then y else some ⟨true, ts, i, d⟩) = some r ∧ Fine ts i r := by
  by_cases h : kindAt ts i ∈ ks
  · rw [if_pos h]
    obtain ⟨r, e, g1, g2, g3⟩ := hk (kindAt_lt (fun e => h0 (by rw [← e]; exact h)))
    exact ⟨r, e, by omega, g2, g3⟩
  · rw [if_neg h]; exact ⟨_, rfl, Nat.le_refl _, hi, rfl⟩

theorem prs_fuel : ∀ (f tag : Nat) (ts : List Tk) (i d : Nat), i ≤ ts.length → 8 * (ts.length - i) + rk tag < f → ∃ r, prs f tag ts i d = some r ∧ Fine ts i r
  | 0, _, _, _, _, _, h => by omega
  | f + 1, tag, ts, i, d, hi, hf => by
    have ih := prs_fuel f
    unfold prs
    by_cases t0 : tag = 0
    · rw [if_pos t0]
      have e : rk tag = 5 := by rw [t0]; rfl
      refine and_fine (ih 1 ts i d hi (by have : rk 1 = 4 := rfl; omega)) fun us j d hu h1 h2 => if_fine (by decide) (by omega) fun h3 => ?_
      exact ih 1 us (j + 1) d h3 (by have : rk 1 = 4 := rfl; omega)
    rw [if_neg t0]
    by_cases t1 : tag = 1
    · rw [if_pos t1]
      have e : rk tag = 4 := by rw [t1]; rfl
      refine and_fine (ih 2 ts i d hi (by have : rk 2 = 3 := rfl; omega)) fun us j d hu h1 h2 => if_fine (by decide) (by omega) fun h3 => ?_
      exact ih 1 us (j + 1) d h3 (by have : rk 1 = 4 := rfl; omega)
    rw [if_neg t1]
    by_cases t2 : tag = 2
    · rw [if_pos t2]
      have e : rk tag = 3 := by rw [t2]; rfl
      refine and_fine (ih 3 ts i d hi (by have : rk 3 = 2 := rfl; omega)) fun us j d hu h1 h2 => if_fine (by decide) (by omega) fun h3 => ?_
      exact ih 2 us (j + 1) d h3 (by have : rk 2 = 3 := rfl; omega)
    rw [if_neg t2]
    by_cases t3 : tag = 3
    · rw [if_pos t3]
      have e : rk tag = 2 := by rw [t3]; rfl
      obtain ⟨n1, n2, n3⟩ := ngs_facts 8 ts i hi
      generalize (ngs 8 ts i).1 = us at *
      generalize (ngs 8 ts i).2 = j at *
      have lift : ∀ (x : Option PR) (m : Nat), i ≤ m → (∃ r, x = some r ∧ Fine us m r) → ∃ r, x = some r ∧ Fine ts i r := fun x m hm ⟨r, e, g1, g2, g3⟩ => ⟨r, e, by omega, by omega, by omega⟩
      by_cases k1 : kindAt us j ∈ [1, 2, 3, 4, 5]
      · rw [if_pos k1]
        have hl := kindAt_lt (ts := us) (i := j) (fun e => by rw [e] at k1; revert k1; decide)
        exact ⟨_, rfl, by simp only; omega, by simp only; omega, n3⟩
      rw [if_neg k1]
      by_cases k2 : kindAt us j = 12
      · rw [if_pos k2]; exact lift _ j n1 (ih 6 us j d (by omega) (by have : rk 6 = 1 := rfl; omega))
      rw [if_neg k2]
      by_cases k3 : kindAt us j = 6
      · rw [if_pos k3]
        have hl := kindAt_lt (ts := us) (i := j) (fun e => by rw [e] at k3; revert k3; decide)
        exact lift _ (j + 1) (by omega) (ih 7 us (j + 1) d (by omega) (by have : rk 7 = 1 := rfl; omega))
      rw [if_neg k3]
      by_cases k4 : kindAt us j ∈ [7, 8]
      · rw [if_pos k4]
        have hl := kindAt_lt (ts := us) (i := j) (fun e => by rw [e] at k4; revert k4; decide)
        exact lift _ (j + 1) (by omega) (ih 6 us (j + 1) d (by omega) (by have : rk 6 = 1 := rfl; omega))
      rw [if_neg k4]
      by_cases k5 : kindAt us j ∈ [9, 10]
      · rw [if_pos k5]
        have hl := kindAt_lt (ts := us) (i := j) (fun e => by rw [e] at k5; revert k5; decide)
        exact lift _ (j + 1) (by omega) (ih 8 us (j + 1) d (by omega) (by have : rk 8 = 1 := rfl; omega))
      rw [if_neg k5]
      exact ⟨_, rfl, n1, n2, n3⟩
    rw [if_neg t3]
    have r0 : rk 0 = 5 := rfl
    by_cases t4 : tag = 4
    · rw [if_pos t4]
      have e : rk tag = 6 := by rw [t4]; rfl
      refine and_fine (ih 0 ts i d hi (by omega)) fun us j d hu h1 h2 => wants_fine (by decide) (by omega) fun h3 => ?_
      refine and_fine (ih 0 us (j + 1) d h3 (by omega)) fun us2 j2 d2 hu2 h12 h22 => wants_fine (by decide) (by omega) fun h32 => ?_
      exact ih 0 us2 (j2 + 1) d2 h32 (by omega)
    rw [if_neg t4]
    by_cases t5 : tag = 5
    · rw [if_pos t5]
      exact wants_fine (by decide) hi fun h1 => wants_fine (by decide) h1 fun h2 => wants_fine (by decide) h2 fun h3 => ⟨_, rfl, Nat.le_refl _, h3, rfl⟩
    rw [if_neg t5]
    have e : rk tag = 1 := by unfold rk; rw [if_neg t4, if_neg t0, if_neg t1, if_neg t2, if_neg t3, if_neg t5]
    by_cases t8 : d = 8
    · rw [if_pos t8]; exact ⟨_, rfl, Nat.le_refl _, hi, rfl⟩
    rw [if_neg t8]
    refine wants_fine (by decide) hi fun h1 => ?_
    refine and_fine ?_ fun us j d hu h1 h2 => wants_fine (by decide) (by omega) fun h3 => ⟨_, rfl, Nat.le_refl _, h3, rfl⟩
    have hr : ∀ t, rk t ≤ 6 := fun t => by unfold rk; (repeat' split) <;> omega
    exact ih _ ts (i + 1) (d + 1) h1 (by have := hr (if tag = 6 then 0 else if tag = 7 then 4 else 5); omega)
end Go.Proofs.YtabcicijjdggdaaDoor
