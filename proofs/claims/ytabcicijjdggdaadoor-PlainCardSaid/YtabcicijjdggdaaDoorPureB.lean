/- Plain mathematics of formulas, more: the tokens of a text. No program stands in it. -/
import Derived.Test.YtabcicijjdggdaaDoorPure
namespace Go.Proofs.YtabcicijjdggdaaDoor
theorem tok1_cons (c : UInt8) (r : List UInt8) : tok1 (c :: r) = if dgB (c.toNat : Int) = true then numI (c :: r) else if ltB (c.toNat : Int) = true then wdI (c :: r) else if c = 34 then qtT (c :: r) else (sgnI (c.toNat : Int), 1) := rfl

theorem tok1_size (l : List UInt8) (h : (tok1 l).1 ≠ 0) : 1 ≤ (tok1 l).2 ∧ (tok1 l).2 ≤ l.length := by
  match l with
  | [] => simp [tok1] at h
  | c :: r =>
    rw [tok1_cons] at h ⊢
    by_cases hd : dgB (c.toNat : Int) = true
    · rw [if_pos hd] at h ⊢
      have h1 : spn dgB (c :: r) = spn dgB r + 1 := by rw [spn, if_pos hd]
      have h2 := spn_le dgB (c :: r)
      unfold numI at h ⊢
      by_cases h3 : 19 < spn dgB (c :: r)
      · rw [if_pos h3] at h; simp at h
      · rw [if_neg h3] at h ⊢
        by_cases h4 : 9223372036854775807 < valN ((c :: r).take (spn dgB (c :: r)))
        · rw [if_pos h4] at h; simp at h
        · rw [if_neg h4]; exact ⟨by simp only; omega, h2⟩
    · rw [if_neg hd] at h ⊢
      by_cases hl : ltB (c.toNat : Int) = true
      · rw [if_pos hl] at h ⊢
        have h1 : spn ldB (c :: r) = spn ldB r + 1 := by rw [spn, if_pos (by simp [ldB, hl])]
        have h2 := spn_le ldB (c :: r)
        unfold wdI at h ⊢
        by_cases h3 : 5 < spn ldB (c :: r)
        · rw [if_pos h3] at h; simp at h
        · rw [if_neg h3]; exact ⟨by simp only; omega, h2⟩
      · rw [if_neg hl] at h ⊢
        by_cases hq : c = 34
        · rw [if_pos hq] at h ⊢
          unfold qtT qtI at h ⊢
          by_cases h3 : (List.drop 1 (c :: r))[spn pbB (List.drop 1 (c :: r))]? = some 34 ∧ spn pbB (List.drop 1 (c :: r)) ≤ 20
          · rw [if_pos h3]
            have h4 := (List.getElem?_eq_some_iff.1 h3.1).1
            simp only [List.drop_succ_cons, List.drop_zero, List.length_cons] at h4 ⊢
            omega
          · rw [if_neg h3] at h; simp at h
        · rw [if_neg hq]; simp

/-- A token: its kind, its text, its place. -/
structure Tk where
  k : Int
  x : List UInt8
  p : Nat
/-- The tokens of a text (so many steps at most), its first byte's place given; the place of a byte that begins none. -/
def scn : Nat → List UInt8 → Nat → List Tk × Option Nat
  | 0, _, _ => ([], none)
  | _ + 1, [], _ => ([], none)
  | n + 1, c :: r, p =>
    if c = 32 then scn n r (p + 1)
    else if (tok1 (c :: r)).1 = 0 then ([], some p)
    else (⟨(tok1 (c :: r)).1, (c :: r).take (tok1 (c :: r)).2, p⟩ :: (scn n ((c :: r).drop (tok1 (c :: r)).2) (p + (tok1 (c :: r)).2)).1,
          (scn n ((c :: r).drop (tok1 (c :: r)).2) (p + (tok1 (c :: r)).2)).2)
theorem scn_nil (n p : Nat) : scn n [] p = ([], none) := by cases n <;> rfl

theorem scn_tok (n : Nat) (l : List UInt8) (p : Nat) (c : UInt8) (hc : l.head? = some c) (hb : c ≠ 32) (h0 : (tok1 l).1 ≠ 0) :
    scn (n + 1) l p = (⟨(tok1 l).1, l.take (tok1 l).2, p⟩ :: (scn n (l.drop (tok1 l).2) (p + (tok1 l).2)).1, (scn n (l.drop (tok1 l).2) (p + (tok1 l).2)).2) := by
  match l, hc with
  | a :: r, hc =>
    simp only [List.head?_cons, Option.some.injEq] at hc
    subst hc
    rw [scn, if_neg hb, if_neg h0]

end Go.Proofs.YtabcicijjdggdaaDoor
