/- Plain mathematics: texts whose tokens are known: with blanks between them or not. -/
import Derived.Test.YtiocnfambeochaaGreatDoorGram
import Derived.Test.YtiocnfambeochaaGreatDoorPtk
namespace Go.Proofs.YtiocnfambeochaaGreatDoor

def ldHead (l : List UInt8) : Bool := match l with | [] => false | c :: _ => ldB (c.toNat : Int)

/-- The text x is a token of kind k, whatever stands behind it (but no letter or digit behind one that begins with one). -/
structure TO (k : Int) (x : List UInt8) : Prop where
  k0 : k ≠ 0
  head : ∃ c r, x = c :: r ∧ c ≠ 32
  tok : ∀ s, (ldHead x = true → ldHead s = false) → tok1 (x ++ s) = (k, x.length)

/-- The tokens of a text, by kind and text. -/
def SC (s : List UInt8) (kx : List (Int × List UInt8)) : Prop := ∀ (p n : Nat), s.length ≤ n → ∃ ts : List Tk, scn n s p = (ts, none) ∧ ts.map (fun t => (t.k, t.x)) = kx

theorem sc_nil : SC [] [] := fun p n _ => ⟨[], scn_nil n p, rfl⟩
theorem sc_blank {s : List UInt8} {kx : List (Int × List UInt8)} (h : SC s kx) : SC (32 :: s) kx := by
  intro p n hn
  obtain ⟨m, rfl⟩ : ∃ m, n = m + 1 := ⟨n - 1, by simp only [List.length_cons] at hn; omega⟩
  obtain ⟨ts, e1, e2⟩ := h (p + 1) m (by simp only [List.length_cons] at hn; omega)
  exact ⟨ts, by rw [scn, if_pos rfl]; exact e1, e2⟩
theorem sc_tok {k : Int} {x s : List UInt8} {kx : List (Int × List UInt8)} (hx : TO k x) (hb : ldHead x = true → ldHead s = false) (h : SC s kx) : SC (x ++ s) ((k, x) :: kx) := by
  intro p n hn
  obtain ⟨c, r, hc, hc32⟩ := hx.head
  have htok := hx.tok s hb
  have hlen : x.length = r.length + 1 := by rw [hc]; rfl
  rw [List.length_append] at hn
  obtain ⟨m, rfl⟩ : ∃ m, n = m + 1 := ⟨n - 1, by omega⟩
  obtain ⟨ts, e1, e2⟩ := h (p + x.length) m (by omega)
  refine ⟨⟨k, x, p⟩ :: ts, ?_, by simp [e2]⟩
  rw [scn_tok m (x ++ s) p c (by rw [hc]; rfl) hc32 (by rw [htok]; exact hx.k0), htok]
  simp [e1]

/-- Tokens that are spelt out, each with so many blanks behind it. -/
def spell : List (Tk × Nat) → List UInt8
  | [] => []
  | (t, b) :: r => t.x ++ (List.replicate b 32 ++ spell r)
/-- Each is a token, and none runs into the next. -/
def Good : List Tk → Prop
  | [] => True
  | t :: r => TO (unm t).k t.x ∧ (t.k = 1 → nzT t.x = t.x) ∧ (ldHead t.x = true → match r with | [] => True | u :: _ => ldHead u.x = false) ∧ Good r

def kxs (g : List Tk) : List (Int × List UInt8) := g.map fun t => ((unm t).k, t.x)

theorem ldHead_app {a b : List UInt8} (h : a ≠ []) : ldHead (a ++ b) = ldHead a := by
  match a, h with
  | c :: r, _ => rfl

theorem sc_blanks {s : List UInt8} {kx : List (Int × List UInt8)} (h : SC s kx) : ∀ b : Nat, SC (List.replicate b 32 ++ s) kx
  | 0 => h
  | b + 1 => by rw [List.replicate_succ, List.cons_append]; exact sc_blank (sc_blanks h b)

theorem to_ne {k : Int} {x : List UInt8} (h : TO k x) : x ≠ [] := by
  obtain ⟨c, r, hc, _⟩ := h.head
  rw [hc]; simp

theorem sc_spell : ∀ l : List (Tk × Nat), Good (l.map (·.1)) → SC (spell l) (kxs (l.map (·.1)))
  | [], _ => sc_nil
  | (t, b) :: r, h => by
    obtain ⟨h1, _, h3, h4⟩ := h
    have ih := sc_spell r h4
    refine sc_tok h1 (fun hl => ?_) (sc_blanks ih b)
    cases b with
    | succ b => rfl
    | zero =>
      have h3 := h3 hl
      match r, h3, h4 with
      | [], _, _ => rfl
      | (u, c) :: r', h3, h4 =>
        have hu := to_ne h4.1
        show ldHead (u.x ++ _) = false
        rw [ldHead_app hu]
        exact h3

/-- A token in its plain form: blanks, its text, blanks. -/
theorem ptk_parts (t : Tk) (h : t.k = 1 → nzT t.x = t.x) : ∃ a b, a ≤ 1 ∧ ptk t = List.replicate a 32 ++ (t.x ++ List.replicate b 32) := by
  unfold ptk
  by_cases h1 : t.k = 1
  · rw [if_pos h1, h h1]; exact ⟨0, 0, by omega, by simp⟩
  rw [if_neg h1]
  by_cases h2 : t.k ∈ [16, 17, 18, 19, 20, 21, 22]
  · rw [if_pos h2]; exact ⟨1, 1, by omega, by simp⟩
  rw [if_neg h2]
  by_cases h3 : t.k = 14
  · rw [if_pos h3]; exact ⟨0, 1, by omega, by simp⟩
  rw [if_neg h3]; exact ⟨0, 0, by omega, by simp⟩

theorem sc_plain : ∀ g : List Tk, Good g → SC (g.flatMap ptk) (kxs g)
  | [], _ => sc_nil
  | t :: r, h => by
    obtain ⟨h1, h2, h3, h4⟩ := h
    have ih := sc_plain r h4
    obtain ⟨a, b, _, e⟩ := ptk_parts t h2
    rw [List.flatMap_cons, e, List.append_assoc, List.append_assoc]
    refine sc_blanks (sc_tok h1 (fun hl => ?_) (sc_blanks ih b)) a
    cases b with
    | succ b => rfl
    | zero =>
      have h3 := h3 hl
      match r, h3, h4 with
      | [], _, _ => rfl
      | u :: r', h3, h4 =>
        have hu := to_ne h4.1
        obtain ⟨a', b', _, e'⟩ := ptk_parts u h4.2.1
        simp only [List.replicate_zero, List.nil_append, List.flatMap_cons]
        rw [e', List.append_assoc, List.append_assoc]
        cases a' with
        | succ a' => rfl
        | zero =>
          simp only [List.replicate_zero, List.nil_append]
          rw [ldHead_app hu]
          exact h3

/- Which texts are tokens. -/
def hdNot (p : Int → Bool) (s : List UInt8) : Prop := match s with | [] => True | c :: _ => p (c.toNat : Int) = false
theorem spn_all (p : Int → Bool) : ∀ (x s : List UInt8), (∀ c ∈ x, p (c.toNat : Int) = true) → hdNot p s → spn p (x ++ s) = x.length
  | [], [], _, _ => rfl
  | [], c :: _, _, h => by
    have h : p (c.toNat : Int) = false := h
    show spn p (c :: _) = 0
    rw [spn, if_neg (by simp [h])]
  | a :: r, s, h, hs => by
    rw [List.cons_append, spn, if_pos (h a List.mem_cons_self), spn_all p r s (fun c hc => h c (List.mem_cons_of_mem _ hc)) hs, List.length_cons]

theorem to_sign (c : UInt8) (h0 : sgnI (c.toNat : Int) ≠ 0) (hd : dgB (c.toNat : Int) = false) (hl : ltB (c.toNat : Int) = false) (hq : c ≠ 34) (hb : c ≠ 32) : TO (sgnI (c.toNat : Int)) [c] where
  k0 := h0
  head := ⟨c, [], rfl, hb⟩
  tok := fun s _ => by
    rw [List.singleton_append, tok1_cons, hd, hl, if_neg (by simp), if_neg (by simp), if_neg hq]; rfl

theorem ldHead_next {s : List UInt8} (h : ldHead s = false) : hdNot ldB s := by
  cases s with
  | nil => trivial
  | cons c r => exact h
theorem ldHead_digit {s : List UInt8} (h : ldHead s = false) : hdNot dgB s := by
  cases s with
  | nil => trivial
  | cons c r =>
    have h : ldB (c.toNat : Int) = false := h
    unfold ldB at h
    exact (by simpa using h : ltB (c.toNat : Int) = false ∧ dgB (c.toNat : Int) = false).2

theorem to_word (c : UInt8) (r : List UInt8) (hc : ltB (c.toNat : Int) = true) (hr : ∀ a ∈ c :: r, ldB (a.toNat : Int) = true) (h5 : r.length ≤ 4) (h0 : wrdI (c :: r) ≠ 0) : TO (wrdI (c :: r)) (c :: r) where
  k0 := h0
  head := ⟨c, r, rfl, fun e => by rw [e] at hc; revert hc; decide⟩
  tok := fun s hs => by
    have hd : dgB (c.toNat : Int) = false := by
      unfold ltB dgB at *
      simp only [decide_eq_true_eq, decide_eq_false_iff_not] at *
      omega
    have hsp := spn_all ldB (c :: r) s hr (ldHead_next (hs (by show ldB _ = true; exact hr c List.mem_cons_self)))
    rw [List.cons_append, tok1_cons, hd, if_neg (by simp), hc, if_pos rfl]
    unfold wdI
    rw [← List.cons_append, hsp, if_neg (by simp only [List.length_cons]; omega), List.take_left' rfl]

theorem to_num (c : UInt8) (r : List UInt8) (hr : ∀ a ∈ c :: r, dgB (a.toNat : Int) = true) (h19 : r.length ≤ 18) (hv : valN (c :: r) ≤ 9223372036854775807) : TO 1 (c :: r) where
  k0 := by decide
  head := ⟨c, r, rfl, fun e => by have := hr c List.mem_cons_self; rw [e] at this; revert this; decide⟩
  tok := fun s hs => by
    have hd := hr c List.mem_cons_self
    have hsp := spn_all dgB (c :: r) s hr (ldHead_digit (hs (by show ldB _ = true; unfold ldB; rw [hd]; simp)))
    rw [List.cons_append, tok1_cons, hd, if_pos rfl]
    unfold numI
    rw [← List.cons_append, hsp, if_neg (by simp only [List.length_cons]; omega), List.take_left' rfl, if_neg (by omega)]

theorem to_text (r : List UInt8) (hr : ∀ a ∈ r, pbB (a.toNat : Int) = true) (h20 : r.length ≤ 20) : TO 2 (34 :: (r ++ [34])) where
  k0 := by decide
  head := ⟨34, r ++ [34], rfl, by decide⟩
  tok := fun s _ => by
    have hsp := spn_all pbB r (34 :: s) hr (by show pbB _ = false; decide)
    have e : (34 :: (r ++ [34])) ++ s = 34 :: (r ++ 34 :: s) := by simp
    rw [e, tok1_cons, if_neg (by decide), if_neg (by decide), if_pos rfl]
    unfold qtT qtI
    rw [List.drop_succ_cons, List.drop_zero, hsp, if_pos ⟨by simp, h20⟩]
    simp
end Go.Proofs.YtiocnfambeochaaGreatDoor
