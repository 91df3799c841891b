/- Plain mathematics: a text with its blanks struck and others put in has the same tokens. -/
import Derived.Test.YtiocnfambeochaaGreatDoorGen
namespace Go.Proofs.YtiocnfambeochaaGreatDoor

def nq (c : Int) : Bool := decide (c ≠ 34)
def isBr (c : UInt8) : Bool := c == 40 || c == 41 || c == 44 || c == 43

/-- The statement's own way: texts stay, blanks go, behind some signs two blanks come in, as the raw bytes say. -/
def oddF : Nat → List UInt8 → List UInt8 → List UInt8 × List UInt8
  | 0, _, fd => ([], fd)
  | _ + 1, [], fd => ([], fd)
  | n + 1, c :: r, fd =>
    if c = 34 then (34 :: (r.take (spn nq r + 1) ++ (oddF n (r.drop (spn nq r + 1)) fd).1), (oddF n (r.drop (spn nq r + 1)) fd).2)
    else if isBr c = true then (c :: ((if (nx 3 fd).1 = 1 then [32, 32] else []) ++ (oddF n r (nx 3 fd).2).1), (oddF n r (nx 3 fd).2).2)
    else if c = 32 then oddF n r fd
    else (c :: (oddF n r fd).1, (oddF n r fd).2)

/-- The text of a token: a text, one sign, or letters and digits. -/
def OX (x : List UInt8) : Prop := (∃ r, x = 34 :: (r ++ [34]) ∧ ∀ a ∈ r, nq (a.toNat : Int) = true) ∨ (∃ c, x = [c] ∧ c ≠ 34 ∧ c ≠ 32) ∨ (∀ c ∈ x, ldB (c.toNat : Int) = true)

theorem spn_full (p : Int → Bool) (l : List UInt8) (h : spn p l = l.length) : ∀ c ∈ l, p (c.toNat : Int) = true := by
  have := spn_take p l
  rw [h, List.take_length] at this
  exact this
theorem dg_ld {c : Int} (h : dgB c = true) : ldB c = true := by unfold ldB; rw [h]; simp

theorem ox_of_to {k : Int} {x : List UInt8} (h : TO k x) : OX x := by
  obtain ⟨c, r, hc, h32⟩ := h.head
  have ht := h.tok [] (fun _ => rfl)
  have hk := h.k0
  rw [List.append_nil] at ht
  subst hc
  rw [tok1_cons] at ht
  by_cases hd : dgB (c.toNat : Int) = true
  · rw [if_pos hd] at ht
    refine Or.inr (Or.inr fun a ha => ?_)
    have hs : spn dgB (c :: r) = (c :: r).length := by
      unfold numI at ht
      split at ht
      · simp only [Prod.mk.injEq] at ht; exact absurd ht.1.symm hk
      · split at ht
        · simp only [Prod.mk.injEq] at ht; exact absurd ht.1.symm hk
        · simp only [Prod.mk.injEq] at ht; exact ht.2
    exact dg_ld (spn_full dgB _ hs a ha)
  rw [if_neg hd] at ht
  by_cases hl : ltB (c.toNat : Int) = true
  · rw [if_pos hl] at ht
    refine Or.inr (Or.inr fun a ha => ?_)
    have hs : spn ldB (c :: r) = (c :: r).length := by
      unfold wdI at ht
      split at ht
      · simp only [Prod.mk.injEq] at ht; exact absurd ht.1.symm hk
      · simp only [Prod.mk.injEq] at ht; exact ht.2
    exact spn_full ldB _ hs a ha
  rw [if_neg hl] at ht
  by_cases hq : c = 34
  · rw [if_pos hq] at ht
    subst hq
    refine Or.inl ?_
    unfold qtT qtI at ht
    rw [List.drop_succ_cons, List.drop_zero] at ht
    split at ht
    · rename_i hh
      simp only [Prod.mk.injEq, List.length_cons] at ht
      have hlen : r.length = spn pbB r + 1 := by omega
      have hr : r = r.take (spn pbB r) ++ [34] := by
        conv => lhs; rw [← List.take_append_drop (spn pbB r) r]
        congr 1
        rw [List.drop_eq_getElem_cons (by omega), List.drop_of_length_le (by omega)]
        have := hh.1
        rw [List.getElem?_eq_getElem (by omega), Option.some.injEq] at this
        rw [this]
      refine ⟨r.take (spn pbB r), by rw [← hr], fun a ha => ?_⟩
      have := spn_take pbB r a ha
      unfold pbB at this
      unfold nq
      simp only [decide_eq_true_eq] at this ⊢
      exact this.2.2
    · simp only [Prod.mk.injEq] at ht; exact absurd ht.1.symm hk
  rw [if_neg hq] at ht
  simp only [Prod.mk.injEq, List.length_cons] at ht
  have : r = [] := List.length_eq_zero_iff.1 (by omega)
  subst this
  exact Or.inr (Or.inl ⟨c, rfl, hq, h32⟩)

theorem ld_plain {c : UInt8} (h : ldB (c.toNat : Int) = true) : c ≠ 34 ∧ isBr c = false ∧ c ≠ 32 := by
  refine ⟨fun e => ?_, ?_, fun e => ?_⟩
  · rw [e] at h; revert h; decide
  · unfold isBr
    have : ∀ a : UInt8, ldB (a.toNat : Int) = false → (c == a) = false := fun a ha => by
      rw [beq_eq_false_iff_ne]; intro e; rw [e] at h; rw [ha] at h; cases h
    rw [this 40 (by decide), this 41 (by decide), this 44 (by decide), this 43 (by decide)]; rfl
  · rw [e] at h; revert h; decide

theorem odd_ld : ∀ (x rest fd : List UInt8) (n : Nat), (∀ c ∈ x, ldB (c.toNat : Int) = true) → (x ++ rest).length ≤ n → ∃ m, rest.length ≤ m ∧ oddF n (x ++ rest) fd = (x ++ (oddF m rest fd).1, (oddF m rest fd).2)
  | [], rest, fd, n, _, hn => ⟨n, hn, rfl⟩
  | c :: r, rest, fd, n, h, hn => by
    simp only [List.cons_append, List.length_cons] at hn
    obtain ⟨k, rfl⟩ : ∃ k, n = k + 1 := ⟨n - 1, by omega⟩
    obtain ⟨m, hm, e⟩ := odd_ld r rest fd k (fun a ha => h a (List.mem_cons_of_mem _ ha)) (by omega)
    obtain ⟨h1, h2, h3⟩ := ld_plain (h c List.mem_cons_self)
    refine ⟨m, hm, ?_⟩
    rw [List.cons_append, oddF, if_neg h1, h2, if_neg (by simp), if_neg h3, e]
    rfl

theorem odd_tok (x rest fd : List UInt8) (n : Nat) (h : OX x) (hn : (x ++ rest).length ≤ n) : ∃ m b fd', rest.length ≤ m ∧ oddF n (x ++ rest) fd = (x ++ (List.replicate b 32 ++ (oddF m rest fd').1), (oddF m rest fd').2) := by
  rcases h with ⟨r, rfl, hr⟩ | ⟨c, rfl, h34, h32⟩ | h
  · have e0 : 34 :: (r ++ [34]) ++ rest = 34 :: (r ++ 34 :: rest) := by simp
    rw [e0] at hn ⊢
    simp only [List.length_cons, List.length_append] at hn
    obtain ⟨k, rfl⟩ : ∃ k, n = k + 1 := ⟨n - 1, by omega⟩
    have hsp : spn nq (r ++ 34 :: rest) = r.length := spn_all nq r (34 :: rest) hr (show nq _ = false by decide)
    refine ⟨k, 0, fd, by omega, ?_⟩
    have e1 : (r ++ 34 :: rest).take (r.length + 1) = r ++ [34] := by
      rw [List.take_append, List.take_of_length_le (by omega)]; simp
    have e2 : (r ++ 34 :: rest).drop (r.length + 1) = rest := by
      rw [List.drop_append, List.drop_of_length_le (by omega)]; simp
    rw [oddF, if_pos rfl, hsp, e1, e2]
    simp
  · simp only [List.singleton_append, List.length_cons] at hn
    obtain ⟨k, rfl⟩ : ∃ k, n = k + 1 := ⟨n - 1, by omega⟩
    rw [List.singleton_append, oddF, if_neg h34]
    by_cases hb : isBr c = true
    · rw [if_pos hb]
      by_cases hx : (nx 3 fd).1 = 1
      · rw [if_pos hx]; exact ⟨k, 2, (nx 3 fd).2, by omega, rfl⟩
      · rw [if_neg hx]; exact ⟨k, 0, (nx 3 fd).2, by omega, rfl⟩
    · rw [if_neg hb, if_neg h32]; exact ⟨k, 0, fd, by omega, rfl⟩
  · obtain ⟨m, hm, e⟩ := odd_ld x rest fd n h hn
    exact ⟨m, 0, fd, hm, by rw [e]; simp⟩

theorem odd_blanks : ∀ (a : Nat) (rest fd : List UInt8) (n : Nat), (List.replicate a 32 ++ rest).length ≤ n → ∃ m, rest.length ≤ m ∧ oddF n (List.replicate a 32 ++ rest) fd = oddF m rest fd
  | 0, rest, fd, n, hn => ⟨n, by simpa using hn, rfl⟩
  | a + 1, rest, fd, n, hn => by
    simp only [List.replicate_succ, List.cons_append, List.length_cons] at hn
    obtain ⟨k, rfl⟩ : ∃ k, n = k + 1 := ⟨n - 1, by omega⟩
    obtain ⟨m, hm, e⟩ := odd_blanks a rest fd k (by omega)
    refine ⟨m, hm, ?_⟩
    rw [List.replicate_succ, List.cons_append, oddF, if_neg (by decide), if_neg (by decide), if_pos rfl, e]

theorem odd_spell : ∀ (g : List Tk) (fd : List UInt8) (n : Nat), Good g → (g.flatMap ptk).length ≤ n → ∃ bl : List (Tk × Nat), bl.map (·.1) = g ∧ (oddF n (g.flatMap ptk) fd).1 = spell bl
  | [], fd, n, _, _ => ⟨[], rfl, by cases n <;> rfl⟩
  | t :: r, fd, n, h, hn => by
    obtain ⟨h1, h2, _, h4⟩ := h
    obtain ⟨a, b, _, e⟩ := ptk_parts t h2
    have e1 : (t :: r).flatMap ptk = List.replicate a 32 ++ (t.x ++ (List.replicate b 32 ++ r.flatMap ptk)) := by rw [List.flatMap_cons, e]; simp
    rw [e1] at hn ⊢
    obtain ⟨m1, hm1, e2⟩ := odd_blanks a _ fd n hn
    obtain ⟨m2, c, fd2, hm2, e3⟩ := odd_tok t.x _ fd m1 (ox_of_to h1) hm1
    obtain ⟨m3, hm3, e4⟩ := odd_blanks b _ fd2 m2 hm2
    obtain ⟨bl, e5, e6⟩ := odd_spell r fd2 m3 h4 hm3
    refine ⟨(t, c) :: bl, by simp [e5], ?_⟩
    rw [e2, e3, e4]
    simp only [spell]
    rw [e6]

/-- What the statement says of the pure side: the formula has its plain form, which is its own, with blanks more or less too. -/
theorem made_plain (deep : Nat) (hd : deep ≤ 8) (fd : List UInt8) (hl : ((gen deep fd).1.flatMap ptk).length ≤ 120) :
    (rd ((gen deep fd).1.flatMap ptk)).e = 0 ∧ (rd ((gen deep fd).1.flatMap ptk)).p = 0 ∧ plT ((gen deep fd).1.flatMap ptk) = (gen deep fd).1.flatMap ptk := by
  have h := (gen_fg deep fd).1
  exact plain_made _ _ (sc_plain _ h.good) (h.is.more hd) (ck_end h.ck) hl
theorem made_odd (deep : Nat) (hd : deep ≤ 8) (fd fd2 : List UInt8) (n : Nat) (hn : ((gen deep fd).1.flatMap ptk).length ≤ n) (hl : (32 :: (oddF n ((gen deep fd).1.flatMap ptk) fd2).1).length ≤ 120) :
    (rd (32 :: (oddF n ((gen deep fd).1.flatMap ptk) fd2).1)).e = 0 ∧ (rd (32 :: (oddF n ((gen deep fd).1.flatMap ptk) fd2).1)).p = 0 ∧ plT (32 :: (oddF n ((gen deep fd).1.flatMap ptk) fd2).1) = (gen deep fd).1.flatMap ptk := by
  have h := (gen_fg deep fd).1
  obtain ⟨bl, e1, e2⟩ := odd_spell _ fd2 n h.good hn
  have hsc : SC (32 :: (oddF n ((gen deep fd).1.flatMap ptk) fd2).1) (kxs (gen deep fd).1) := by
    rw [e2]
    have := sc_spell bl (by rw [e1]; exact h.good)
    rw [e1] at this
    exact sc_blank this
  exact plain_made _ _ hsc (h.is.more hd) (ck_end h.ck) hl
end Go.Proofs.YtiocnfambeochaaGreatDoor
