/- Texts put together. -/
import Derived.Test.YtlpmmmmniojflaaGreatDoorQ12
import Derived.Lib.ItoaNum
/- Plain mathematics: texts whose tokens are known: with blanks between them or not. -/
namespace Go.Proofs.YtlpmmmmniojflaaGreatDoor
def ldHead (l : List UInt8) : Bool := match l with | [] => false | c :: _ => ldB (c.toNat : Int)
structure TO (k : Int) (x : List UInt8) : Prop where
  k0 : k ≠ 0
  head : ∃ c r, x = c :: r ∧ c ≠ 32
  tok : ∀ s, (ldHead x = true → ldHead s = false) → tok1 (x ++ s) = (k, x.length)
def SC (s : List UInt8) (kx : List (Int × List UInt8)) : Prop := ∀ (p n : Nat), s.length ≤ n → ∃ ts : List Tk, scn n s p = (ts, none) ∧ ts.map (fun t => (t.k, t.x)) = kx
theorem sc_nil : SC [] [] := fun p n _ => ⟨[], scn_nil n p, rfl⟩
theorem sc_blank {s : List UInt8} {kx : List (Int × List UInt8)} (h : SC s kx) : SC (32 :: s) kx := by
  intro p n hn
  obtain ⟨m, rfl⟩ : ∃ m, n = m + 1 := ⟨n - 1, by simp only [List.length_cons] at hn; omega⟩
  obtain ⟨ts, e1, e2⟩ := h (p + 1) m (by simp only [List.length_cons] at hn; omega)
  exact ⟨ts, by rw [scn, if_pos rfl]; exact e1, e2⟩
theorem sc_tok {k : Int} {x s : List UInt8} {kx : List (Int × List UInt8)} (hx : TO k x) (hb : ldHead x = true → ldHead s = false) (h : SC s kx) : SC (x ++ s) ((k, x) :: kx) := by
  intro p n hn
  obtain ⟨c, r, hc, hc32⟩ := hx.head
  have htok := hx.tok s hb
  have hlen : x.length = r.length + 1 := by rw [hc]; rfl
  rw [List.length_append] at hn
  obtain ⟨m, rfl⟩ : ∃ m, n = m + 1 := ⟨n - 1, by omega⟩
  obtain ⟨ts, e1, e2⟩ := h (p + x.length) m (by omega)
  refine ⟨⟨k, x, p⟩ :: ts, ?_, by simp [e2]⟩
  rw [scn_tok m (x ++ s) p c (by rw [hc]; rfl) hc32 (by rw [htok]; exact hx.k0), htok]
  simp [e1]
def Good : List Tk → Prop
  | [] => True
  | t :: r => TO (unm t).k t.x ∧ (t.k = 1 → nzT t.x = t.x) ∧ (ldHead t.x = true → match r with | [] => True | u :: _ => ldHead u.x = false) ∧ Good r
def kxs (g : List Tk) : List (Int × List UInt8) := g.map fun t => ((unm t).k, t.x)
theorem ldHead_app {a b : List UInt8} (h : a ≠ []) : ldHead (a ++ b) = ldHead a := by
  match a, h with
  | c :: r, _ => rfl
theorem sc_blanks {s : List UInt8} {kx : List (Int × List UInt8)} (h : SC s kx) : ∀ b : Nat, SC (List.replicate b 32 ++ s) kx
  | 0 => h
  | b + 1 => by rw [List.replicate_succ, List.cons_append]; exact sc_blank (sc_blanks h b)
theorem to_ne {k : Int} {x : List UInt8} (h : TO k x) : x ≠ [] := by
  obtain ⟨c, r, hc, _⟩ := h.head
  rw [hc]; simp
theorem ptk_parts (t : Tk) (h : t.k = 1 → nzT t.x = t.x) : ∃ a b, a ≤ 1 ∧ ptk t = List.replicate a 32 ++ (t.x ++ List.replicate b 32) := by
  unfold ptk
  by_cases h1 : t.k = 1
  · rw [if_pos h1, h h1]; exact ⟨0, 0, by omega, by simp⟩
  rw [if_neg h1]
  by_cases h2 : t.k ∈ [16, 17, 18, 19, 20, 21, 22]
  · rw [if_pos h2]; exact ⟨1, 1, by omega, by simp⟩
  rw [if_neg h2]
  by_cases h3 : t.k = 14
  · rw [if_pos h3]; exact ⟨0, 1, by omega, by simp⟩
  rw [if_neg h3]; exact ⟨0, 0, by omega, by simp⟩
theorem sc_plain : ∀ g : List Tk, Good g → SC (g.flatMap ptk) (kxs g)
  | [], _ => sc_nil
  | t :: r, h => by
    obtain ⟨h1, h2, h3, h4⟩ := h
    have ih := sc_plain r h4
    obtain ⟨a, b, _, e⟩ := ptk_parts t h2
    rw [List.flatMap_cons, e, List.append_assoc, List.append_assoc]
    refine sc_blanks (sc_tok h1 (fun hl => ?_) (sc_blanks ih b)) a
    cases b with
    | succ b => rfl
    | zero =>
      have h3 := h3 hl
      match r, h3, h4 with
      | [], _, _ => rfl
      | u :: r', h3, h4 =>
        have hu := to_ne h4.1
        obtain ⟨a', b', _, e'⟩ := ptk_parts u h4.2.1
        simp only [List.replicate_zero, List.nil_append, List.flatMap_cons]
        rw [e', List.append_assoc, List.append_assoc]
        cases a' with
        | succ a' => rfl
        | zero =>
          simp only [List.replicate_zero, List.nil_append]
          rw [ldHead_app hu]
          exact h3
/- Which texts are tokens. -/
def hdNot (p : Int → Bool) (s : List UInt8) : Prop := match s with | [] => True | c :: _ => p (c.toNat : Int) = false
theorem spn_all (p : Int → Bool) : ∀ (x s : List UInt8), (∀ c ∈ x, p (c.toNat : Int) = true) → hdNot p s → spn p (x ++ s) = x.length
  | [], [], _, _ => rfl
  | [], c :: _, _, h => by
    have h : p (c.toNat : Int) = false := h
    show spn p (c :: _) = 0
    rw [spn, if_neg (by simp [h])]
  | a :: r, s, h, hs => by
    rw [List.cons_append, spn, if_pos (h a List.mem_cons_self), spn_all p r s (fun c hc => h c (List.mem_cons_of_mem _ hc)) hs, List.length_cons]
theorem to_sign (c : UInt8) (h0 : sgnI (c.toNat : Int) ≠ 0) (hd : dgB (c.toNat : Int) = false) (hl : ltB (c.toNat : Int) = false) (hq : c ≠ 34) (hb : c ≠ 32) : TO (sgnI (c.toNat : Int)) [c] where
  k0 := h0
  head := ⟨c, [], rfl, hb⟩
  tok := fun s _ => by
    rw [List.singleton_append, tok1_cons, hd, hl, if_neg (by simp), if_neg (by simp), if_neg hq]; rfl
theorem ldHead_next {s : List UInt8} (h : ldHead s = false) : hdNot ldB s := by
  cases s with
  | nil => trivial
  | cons c r => exact h
theorem ldHead_digit {s : List UInt8} (h : ldHead s = false) : hdNot dgB s := by
  cases s with
  | nil => trivial
  | cons c r =>
    have h : ldB (c.toNat : Int) = false := h
    unfold ldB at h
    exact (by simpa using h : ltB (c.toNat : Int) = false ∧ dgB (c.toNat : Int) = false).2
theorem to_word (c : UInt8) (r : List UInt8) (hc : ltB (c.toNat : Int) = true) (hr : ∀ a ∈ c :: r, ldB (a.toNat : Int) = true) (h5 : r.length ≤ 4) (h0 : wrdI (c :: r) ≠ 0) : TO (wrdI (c :: r)) (c :: r) where
  k0 := h0
  head := ⟨c, r, rfl, fun e => by rw [e] at hc; revert hc; decide⟩
  tok := fun s hs => by
    have hd : dgB (c.toNat : Int) = false := by
      unfold ltB dgB at *
      simp only [decide_eq_true_eq, decide_eq_false_iff_not] at *
      omega
    have hsp := spn_all ldB (c :: r) s hr (ldHead_next (hs (by show ldB _ = true; exact hr c List.mem_cons_self)))
    rw [List.cons_append, tok1_cons, hd, if_neg (by simp), hc, if_pos rfl]
    unfold wdI
    rw [← List.cons_append, hsp, if_neg (by simp only [List.length_cons]; omega), List.take_left' rfl]
theorem to_num (c : UInt8) (r : List UInt8) (hr : ∀ a ∈ c :: r, dgB (a.toNat : Int) = true) (h19 : r.length ≤ 18) (hv : valN (c :: r) ≤ 9223372036854775807) : TO 1 (c :: r) where
  k0 := by decide
  head := ⟨c, r, rfl, fun e => by have := hr c List.mem_cons_self; rw [e] at this; revert this; decide⟩
  tok := fun s hs => by
    have hd := hr c List.mem_cons_self
    have hsp := spn_all dgB (c :: r) s hr (ldHead_digit (hs (by show ldB _ = true; unfold ldB; rw [hd]; simp)))
    rw [List.cons_append, tok1_cons, hd, if_pos rfl]
    unfold numI
    rw [← List.cons_append, hsp, if_neg (by simp only [List.length_cons]; omega), List.take_left' rfl, if_neg (by omega)]
theorem to_text (r : List UInt8) (hr : ∀ a ∈ r, pbB (a.toNat : Int) = true) (h20 : r.length ≤ 20) : TO 2 (34 :: (r ++ [34])) where
  k0 := by decide
  head := ⟨34, r ++ [34], rfl, by decide⟩
  tok := fun s _ => by
    have hsp := spn_all pbB r (34 :: s) hr (by show pbB _ = false; decide)
    have e : (34 :: (r ++ [34])) ++ s = 34 :: (r ++ 34 :: s) := by simp
    rw [e, tok1_cons, if_neg (by decide), if_neg (by decide), if_pos rfl]
    unfold qtT qtI
    rw [List.drop_succ_cons, List.drop_zero, hsp, if_pos ⟨by simp, h20⟩]
    simp
end Go.Proofs.YtlpmmmmniojflaaGreatDoor
/- Plain mathematics: a text whose tokens are known, and are a formula, has its plain form. -/
namespace Go.Proofs.YtlpmmmmniojflaaGreatDoor
def kx (t : Tk) : Int × List UInt8 := (t.k, t.x)
def Sim (ts us : List Tk) : Prop := ts.map kx = us.map kx
theorem Sim.len {ts us : List Tk} (h : Sim ts us) : ts.length = us.length := by simpa using congrArg List.length h
theorem Sim.get {ts us : List Tk} (h : Sim ts us) (i : Nat) : (ts[i]?).map kx = (us[i]?).map kx := by
  rw [← List.getElem?_map, ← List.getElem?_map, h]
theorem Sim.kind {ts us : List Tk} (h : Sim ts us) (i : Nat) : kindAt ts i = kindAt us i := by
  have := h.get i
  unfold kindAt
  cases h1 : ts[i]? <;> cases h2 : us[i]? <;> rw [h1, h2] at this <;> simp [kx] at this ⊢
  exact this.1
theorem mark_kx (ts : List Tk) (i : Nat) : (mark ts i).map kx = (ts.map kx).modify i fun q => (23, q.2) := by
  unfold mark
  induction ts generalizing i with
  | nil => simp
  | cons a r ih =>
    cases i with
    | zero => simp [List.modify_cons, kx]
    | succ i => simp [ih i]
theorem Sim.mark {ts us : List Tk} (h : Sim ts us) (i : Nat) : Sim (YtlpmmmmniojflaaGreatDoor.mark ts i) (YtlpmmmmniojflaaGreatDoor.mark us i) := by
  unfold Sim; rw [mark_kx, mark_kx, h]
theorem Sim.ngs : ∀ (n : Nat) {ts us : List Tk} (_ : Sim ts us) (i : Nat), Sim (YtlpmmmmniojflaaGreatDoor.ngs n ts i).1 (YtlpmmmmniojflaaGreatDoor.ngs n us i).1 ∧ (YtlpmmmmniojflaaGreatDoor.ngs n ts i).2 = (YtlpmmmmniojflaaGreatDoor.ngs n us i).2
  | 0, _, _, h, _ => ⟨h, rfl⟩
  | n + 1, ts, us, h, i => by
    unfold YtlpmmmmniojflaaGreatDoor.ngs
    rw [h.kind i]
    by_cases hk : kindAt us i = 17
    · rw [if_pos hk, if_pos hk]; exact Sim.ngs n (h.mark i) (i + 1)
    · rw [if_neg hk, if_neg hk]; exact ⟨h, rfl⟩
def SimR (a b : Option PR) : Prop := match a, b with
  | none, none => True
  | some r, some q => r.ok = q.ok ∧ r.i = q.i ∧ r.d = q.d ∧ Sim r.ts q.ts
  | _, _ => False
theorem and_sim {x y : Option PR} {k l : List Tk → Nat → Nat → Option PR} (hx : SimR x y) (hk : ∀ ts us i d, Sim ts us → SimR (k ts i d) (l us i d)) : SimR (andThen x k) (andThen y l) := by
  match x, y, hx with
  | none, none, _ => trivial
  | some r, some q, ⟨h1, h2, h3, h4⟩ =>
    unfold andThen
    simp only
    rw [h1]
    cases q.ok
    · simp only [Bool.false_eq_true, if_false]; exact ⟨h1, h2, h3, h4⟩
    · simp only [if_true]; rw [h2, h3]; exact hk _ _ _ _ h4
theorem wants_sim {q : Int} {ts us : List Tk} {i d : Nat} {k l : List Tk → Nat → Nat → Option PR} (h : Sim ts us) (hk : ∀ ts us i d, Sim ts us → SimR (k ts i d) (l us i d)) : SimR (wants q ts i d k) (wants q us i d l) := by
  unfold wants
  rw [h.kind i]
  by_cases hq : kindAt us i = q
  · rw [if_pos hq, if_pos hq]; exact hk _ _ _ _ h
  · rw [if_neg hq, if_neg hq]; exact ⟨rfl, rfl, rfl, h⟩
theorem loop_sim {ks : List Int} {ts us : List Tk} {i d : Nat} {x y : Option PR} (h : Sim ts us) (hx : SimR x y) : SimR (if kindAt ts i ∈ ks then x else some ⟨true, ts, i, d⟩) (if kindAt us i ∈ ks then y else some ⟨true, us, i, d⟩) := by
  rw [h.kind i]
  by_cases hq : kindAt us i ∈ ks
  · rw [if_pos hq, if_pos hq]; exact hx
  · rw [if_neg hq, if_neg hq]; exact ⟨rfl, rfl, rfl, h⟩
theorem prs_sim : ∀ (f tag : Nat) (ts us : List Tk) (i d : Nat), Sim ts us → SimR (prs f tag ts i d) (prs f tag us i d)
  | 0, _, _, _, _, _, _ => trivial
  | f + 1, tag, ts, us, i, d, h => by
    have ih := prs_sim f
    unfold prs
    by_cases t0 : tag = 0
    · rw [if_pos t0, if_pos t0]; exact and_sim (ih _ _ _ _ _ h) fun ts us i d h => loop_sim h (ih _ _ _ _ _ h)
    rw [if_neg t0, if_neg t0]
    by_cases t1 : tag = 1
    · rw [if_pos t1, if_pos t1]; exact and_sim (ih _ _ _ _ _ h) fun ts us i d h => loop_sim h (ih _ _ _ _ _ h)
    rw [if_neg t1, if_neg t1]
    by_cases t2 : tag = 2
    · rw [if_pos t2, if_pos t2]; exact and_sim (ih _ _ _ _ _ h) fun ts us i d h => loop_sim h (ih _ _ _ _ _ h)
    rw [if_neg t2, if_neg t2]
    by_cases t3 : tag = 3
    · rw [if_pos t3, if_pos t3]
      obtain ⟨n1, n2⟩ := Sim.ngs 8 h i
      rw [n2, n1.kind]
      generalize (YtlpmmmmniojflaaGreatDoor.ngs 8 ts i).1 = a at *
      generalize (YtlpmmmmniojflaaGreatDoor.ngs 8 us i).1 = b at *
      generalize (YtlpmmmmniojflaaGreatDoor.ngs 8 us i).2 = j at *
      by_cases k1 : kindAt b j ∈ [1, 2, 3, 4, 5]
      · rw [if_pos k1, if_pos k1]; exact ⟨rfl, rfl, rfl, n1⟩
      rw [if_neg k1, if_neg k1]
      by_cases k2 : kindAt b j = 12
      · rw [if_pos k2, if_pos k2]; exact ih _ _ _ _ _ n1
      rw [if_neg k2, if_neg k2]
      by_cases k3 : kindAt b j = 6
      · rw [if_pos k3, if_pos k3]; exact ih _ _ _ _ _ n1
      rw [if_neg k3, if_neg k3]
      by_cases k4 : kindAt b j ∈ [7, 8]
      · rw [if_pos k4, if_pos k4]; exact ih _ _ _ _ _ n1
      rw [if_neg k4, if_neg k4]
      by_cases k5 : kindAt b j ∈ [9, 10]
      · rw [if_pos k5, if_pos k5]; exact ih _ _ _ _ _ n1
      rw [if_neg k5, if_neg k5]
      exact ⟨rfl, rfl, rfl, n1⟩
    rw [if_neg t3, if_neg t3]
    by_cases t4 : tag = 4
    · rw [if_pos t4, if_pos t4]
      exact and_sim (ih _ _ _ _ _ h) fun ts us i d h => wants_sim h fun ts us i d h => and_sim (ih _ _ _ _ _ h) fun ts us i d h => wants_sim h fun ts us i d h => ih _ _ _ _ _ h
    rw [if_neg t4, if_neg t4]
    by_cases t5 : tag = 5
    · rw [if_pos t5, if_pos t5]
      exact wants_sim h fun ts us i d h => wants_sim h fun ts us i d h => wants_sim h fun ts us i d h => ⟨rfl, rfl, rfl, h⟩
    rw [if_neg t5, if_neg t5]
    by_cases t8 : d = 8
    · rw [if_pos t8, if_pos t8]; exact ⟨rfl, rfl, rfl, h⟩
    rw [if_neg t8, if_neg t8]
    exact wants_sim h fun ts us i d h => and_sim (ih _ _ _ _ _ h) fun ts us i d h => wants_sim h fun ts us i d h => ⟨rfl, rfl, rfl, h⟩
theorem chk_sim : ∀ (n : Nat) (ts us : List Tk), Sim ts us → chk n ts = none → chk n us = none
  | 0, _, _, _, _ => rfl
  | n + 1, [], [], _, _ => rfl
  | n + 1, [], u :: us, h, _ => by simp [Sim] at h
  | n + 1, t :: ts, [], h, _ => by simp [Sim] at h
  | n + 1, t :: ts, u :: us, h, hc => by
    have hk : t.k = u.k := by simpa [kindAt] using h.kind 0
    have hx : t.x = u.x := by
      have := h.get 0
      simp [kx] at this
      exact this.2
    have hr : Sim ts us := by
      unfold Sim at h ⊢
      simp only [List.map_cons, List.cons.injEq] at h
      exact h.2
    have hd : Sim (ts.drop 2) (us.drop 2) := by unfold Sim at hr ⊢; rw [List.map_drop, List.map_drop, hr]
    have hR : isR (t :: ts) = isR (u :: us) := by unfold isR; rw [h.kind 1, h.len]
    have hT : txtAt (t :: ts) 2 = txtAt (u :: us) 2 := by
      have := h.get 2
      unfold txtAt
      cases h1 : (t :: ts)[2]? <;> cases h2 : (u :: us)[2]? <;> rw [h1, h2] at this <;> simp [kx] at this ⊢
      exact this.2
    unfold chk at hc ⊢
    rw [hk, hx, hR, hT] at hc
    by_cases k5 : u.k ≠ 5
    · rw [if_pos k5] at hc ⊢; exact chk_sim n _ _ hr hc
    rw [if_neg k5] at hc ⊢
    by_cases kr : isR (u :: us) = true
    · rw [if_pos kr] at hc ⊢
      by_cases kb : badA (cn u.x) (cn (txtAt (u :: us) 2)) = true
      · rw [if_pos kb] at hc; cases hc
      · rw [if_neg kb] at hc ⊢; exact chk_sim n _ _ hd hc
    · rw [if_neg kr] at hc ⊢
      by_cases kc : (cn u.x).2 = true
      · rw [if_pos kc] at hc ⊢; exact chk_sim n _ _ hr hc
      · rw [if_neg kc] at hc; cases hc
theorem ptk_kx {t u : Tk} (h : kx t = kx u) : ptk t = ptk u := by
  simp only [kx, Prod.mk.injEq] at h
  unfold ptk
  rw [h.1, h.2]
theorem flat_sim : ∀ {ts us : List Tk}, Sim ts us → ts.flatMap ptk = us.flatMap ptk
  | [], [], _ => rfl
  | [], _ :: _, h => by simp [Sim] at h
  | _ :: _, [], h => by simp [Sim] at h
  | t :: ts, u :: us, h => by
    unfold Sim at h
    simp only [List.map_cons, List.cons.injEq] at h
    rw [List.flatMap_cons, List.flatMap_cons, ptk_kx h.1, flat_sim (show Sim ts us from h.2)]
end Go.Proofs.YtlpmmmmniojflaaGreatDoor
/- Plain mathematics: formulas written out of raw bytes (the statement's own making), token by token; each is a formula whose cells there are. -/
namespace Go.Proofs.YtlpmmmmniojflaaGreatDoor
theorem chk_fuel : ∀ (n m : Nat) (l : List Tk), l.length ≤ n → l.length ≤ m → chk n l = chk m l
  | 0, 0, _, _, _ => rfl
  | 0, m + 1, l, h, _ => by
    have : l = [] := List.length_eq_zero_iff.1 (by omega)
    rw [this]; rfl
  | n + 1, 0, l, _, h => by
    have : l = [] := List.length_eq_zero_iff.1 (by omega)
    rw [this]; rfl
  | n + 1, m + 1, [], _, _ => rfl
  | n + 1, m + 1, t :: r, h1, h2 => by
    simp only [List.length_cons] at h1 h2
    unfold chk
    rw [chk_fuel n m r (by omega) (by omega), chk_fuel n m (r.drop 2) (by simp only [List.length_drop]; omega) (by simp only [List.length_drop]; omega)]
def CK (g : List Tk) : Prop := ∀ (post : List Tk) (n : Nat), kindAt post 0 ≠ 15 → (g ++ post).length ≤ n → chk n (g ++ post) = chk n post
theorem ck_nil : CK [] := fun _ _ _ _ => rfl
theorem ck_other {t : Tk} {g : List Tk} (h : t.k ≠ 5) (hg : CK g) : CK (t :: g) := by
  intro post n hp hn
  simp only [List.cons_append, List.length_cons, List.length_append] at hn
  obtain ⟨m, rfl⟩ : ∃ m, n = m + 1 := ⟨n - 1, by omega⟩
  have e : chk (m + 1) (t :: g ++ post) = chk m (g ++ post) := by rw [List.cons_append, chk, if_pos h]
  rw [e, hg post m hp (by rw [List.length_append]; omega)]
  exact chk_fuel _ _ _ (by omega) (by omega)
theorem ck_cell {t : Tk} {g : List Tk} (h : t.k = 5) (hc : (cn t.x).2 = true) (h15 : kindAt g 0 ≠ 15) (hg : CK g) : CK (t :: g) := by
  intro post n hp hn
  simp only [List.cons_append, List.length_cons, List.length_append] at hn
  obtain ⟨m, rfl⟩ : ∃ m, n = m + 1 := ⟨n - 1, by omega⟩
  have hk : kindAt (t :: (g ++ post)) 1 ≠ 15 := by
    show kindAt (g ++ post) 0 ≠ 15
    cases g with
    | nil => exact hp
    | cons a r => exact h15
  have hr : isR (t :: (g ++ post)) = false := by unfold isR; rw [decide_eq_false hk]; simp
  have e : chk (m + 1) (t :: g ++ post) = chk m (g ++ post) := by rw [List.cons_append, chk, if_neg (by simp [h]), hr, if_neg (by simp), if_pos hc]
  rw [e, hg post m hp (by rw [List.length_append]; omega)]
  exact chk_fuel _ _ _ (by omega) (by omega)
theorem ck_range {a m b : Tk} {g : List Tk} (ha : a.k = 5) (hm : m.k = 15) (hb : badA (cn a.x) (cn b.x) = false) (hg : CK g) : CK (a :: m :: b :: g) := by
  intro post n hp hn
  simp only [List.cons_append, List.length_cons, List.length_append] at hn
  obtain ⟨n, rfl⟩ : ∃ m, n = m + 1 := ⟨n - 1, by omega⟩
  have hr : isR (a :: m :: b :: (g ++ post)) = true := by
    unfold isR
    rw [decide_eq_true (show kindAt (a :: m :: b :: (g ++ post)) 1 = 15 from hm), decide_eq_true (by simp only [List.length_cons]; omega)]
    rfl
  have e : chk (n + 1) (a :: m :: b :: g ++ post) = chk n (g ++ post) := by
    have e0 : a :: m :: b :: g ++ post = a :: m :: b :: (g ++ post) := rfl
    rw [e0, chk, if_neg (by simp [ha]), hr, if_pos rfl]
    have e1 : txtAt (a :: m :: b :: (g ++ post)) 2 = b.x := rfl
    rw [e1, hb, if_neg (by simp)]
    rfl
  rw [e, hg post n hp (by rw [List.length_append]; omega)]
  exact chk_fuel _ _ _ (by omega) (by omega)
theorem ck_app {a b : List Tk} (ha : CK a) (hb : CK b) (hne : b ≠ []) (h15 : kindAt b 0 ≠ 15) : CK (a ++ b) := by
  intro post n hp hn
  have e : (a ++ b) ++ post = a ++ (b ++ post) := by simp
  rw [e] at hn ⊢
  rw [ha (b ++ post) n (by cases b with | nil => exact absurd rfl hne | cons x r => exact h15) hn]
  exact hb post n hp (by rw [List.length_append] at hn; omega)
theorem ck_end {g : List Tk} (h : CK g) : chk g.length g = none := by
  have := h [] g.length (by simp [kindAt]) (by simp)
  rw [List.append_nil] at this
  rw [this]
  cases g.length <;> rfl
theorem good_app {a b : List Tk} (ha : Good a) (hb : Good b) (hne : ∀ u r, b = u :: r → ldHead u.x = false) : Good (a ++ b) := by
  induction a with
  | nil => exact hb
  | cons t r ih =>
    obtain ⟨h1, h2, h3, h4⟩ := ha
    refine ⟨h1, h2, fun hl => ?_, ih h4⟩
    cases r with
    | nil =>
      cases b with
      | nil => trivial
      | cons u q => exact hne u q rfl
    | cons v q => exact h3 hl
structure FG (n : Nat) (g : List Tk) : Prop where
  is : Is 0 n g
  good : Good g
  ck : CK g
  ne : g ≠ []
  h15 : kindAt g 0 ≠ 15
theorem FG.more {n m : Nat} {g : List Tk} (h : FG n g) (hm : n ≤ m) : FG m g := ⟨h.is.more hm, h.good, h.ck, h.ne, h.h15⟩
/- Tokens by name. -/
def tk (k : Int) (x : List UInt8) : Tk := ⟨k, x, 0⟩
def tOpen : Tk := tk 12 [40]
def tClose : Tk := tk 13 [41]
def tComma : Tk := tk 14 [44]
def tColon : Tk := tk 15 [58]
def tNeg : Tk := tk 23 [45]
def tIf : Tk := tk 6 [105, 102]
def tAt : Tk := tk 7 [97, 116]
def tBad : Tk := tk 8 [98, 97, 100]
def tSum : Tk := tk 9 [115, 117, 109]
def tCount : Tk := tk 10 [99, 111, 117, 110, 116]
def tTrue : Tk := tk 3 [116, 114, 117, 101]
def tFalse : Tk := tk 4 [102, 97, 108, 115, 101]
def tText (r : List UInt8) : Tk := tk 2 (34 :: (r ++ [34]))
def tCell (n : Nat) : Tk := tk 5 [UInt8.ofNat (65 + n % 6), UInt8.ofNat (49 + n / 6)]
def tNum (x : List UInt8) : Tk := tk 1 x
def tOp (n : Nat) : Tk := if n = 0 then tk 16 [43] else if n = 1 then tk 17 [45] else if n = 2 then tk 18 [42] else if n = 3 then tk 19 [47] else tk 20 [38]
def tCmp (n : Nat) : Tk := if n = 0 then tk 22 [60] else tk 21 [61]
def nx (n : Nat) : List UInt8 → Nat × List UInt8
  | [] => (0, [])
  | c :: r => (c.toNat % n, r)
def texts (n : Nat) : List UInt8 := if n = 0 then [] else if n = 1 then [120] else if n = 2 then [65, 49] else if n = 3 then [66, 50] else if n = 4 then [67] else [90, 57]
def ranges (n : Nat) : List Tk :=
  if n = 0 then [tSum, tOpen, tCell 0, tColon, tCell 8, tClose] else if n = 1 then [tCount, tOpen, tCell 0, tColon, tCell 5, tClose]
  else if n = 2 then [tSum, tOpen, tCell 7, tColon, tCell 7, tClose] else [tCount, tOpen, tCell 3, tColon, tCell 11, tClose]
def ats (j q : Nat) : List Tk := if j = 0 then [tText [65], tOp 4, tText [49]] else if j = 1 then [tText [66, 50]] else [tCell q]
def gen : Nat → List UInt8 → List Tk × List UInt8
  | 0, fd =>
    if (nx 6 fd).1 = 0 then ([tNum (Lib.decDigits (nx 200 (nx 6 fd).2).1)], (nx 200 (nx 6 fd).2).2)
    else if (nx 6 fd).1 = 1 then ([tText (texts (nx 6 (nx 6 fd).2).1)], (nx 6 (nx 6 fd).2).2)
    else if (nx 6 fd).1 = 2 then
      ([if (nx 3 (nx 6 fd).2).1 = 0 then tTrue else if (nx 3 (nx 6 fd).2).1 = 1 then tFalse else tNum [57, 50, 50, 51, 51, 55, 50, 48, 51, 54, 56, 53, 52, 55, 55, 53, 56, 48, 55]], (nx 3 (nx 6 fd).2).2)
    else ([tCell (nx 12 (nx 6 fd).2).1], (nx 12 (nx 6 fd).2).2)
  | deep + 1, fd =>
    if (nx 9 fd).1 = 0 then
      let a := gen deep (nx 9 fd).2
      let b := gen deep a.2
      let c := gen deep b.2
      (tIf :: tOpen :: ((a.1 ++ tComma :: (b.1 ++ tComma :: c.1)) ++ [tClose]), c.2)
    else if (nx 9 fd).1 = 1 then
      let q := nx 12 (nx 9 fd).2
      let j := nx 3 q.2
      (tAt :: tOpen :: (ats j.1 q.1 ++ [tClose]), j.2)
    else if (nx 9 fd).1 = 2 then
      let a := gen deep (nx 9 fd).2
      (tBad :: tOpen :: (a.1 ++ [tClose]), a.2)
    else if (nx 9 fd).1 = 3 then (ranges (nx 4 (nx 9 fd).2).1, (nx 4 (nx 9 fd).2).2)
    else if (nx 9 fd).1 = 4 then
      let a := gen deep (nx 9 fd).2
      let j := nx 2 a.2
      let b := gen deep j.2
      (tOpen :: ((a.1 ++ tCmp j.1 :: b.1) ++ [tClose]), b.2)
    else if (nx 9 fd).1 = 5 then
      let q := nx 12 (nx 9 fd).2
      ([tNeg, tCell q.1], q.2)
    else
      let a := gen deep (nx 9 fd).2
      let j := nx 5 a.2
      let b := gen deep j.2
      ((tOpen :: (a.1 ++ [tClose])) ++ tOp j.1 :: (tOpen :: (b.1 ++ [tClose])), b.2)
/- The tokens by name are tokens. -/
theorem one_good {t : Tk} (h : TO (unm t).k t.x) (hn : t.k = 1 → nzT t.x = t.x) : Good [t] := ⟨h, hn, fun _ => trivial, trivial⟩
theorem cons_good {t : Tk} {r : List Tk} (h : TO (unm t).k t.x) (hk : t.k ≠ 1) (hs : ldHead t.x = false) (hr : Good r) : Good (t :: r) :=
  ⟨h, fun e => absurd e hk, fun e => absurd (hs.symm.trans e) (by simp), hr⟩
theorem word_good {t u : Tk} {r : List Tk} (h : TO (unm t).k t.x) (hk : t.k ≠ 1) (hs : ldHead u.x = false) (hr : Good (u :: r)) : Good (t :: u :: r) :=
  ⟨h, fun e => absurd e hk, fun _ => hs, hr⟩
theorem to_open : TO (unm tOpen).k tOpen.x := to_sign 40 (by decide) (by decide) (by decide) (by decide) (by decide)
theorem to_close : TO (unm tClose).k tClose.x := to_sign 41 (by decide) (by decide) (by decide) (by decide) (by decide)
theorem to_comma : TO (unm tComma).k tComma.x := to_sign 44 (by decide) (by decide) (by decide) (by decide) (by decide)
theorem to_colon : TO (unm tColon).k tColon.x := to_sign 58 (by decide) (by decide) (by decide) (by decide) (by decide)
theorem to_neg : TO (unm tNeg).k tNeg.x := to_sign 45 (by decide) (by decide) (by decide) (by decide) (by decide)
theorem to_op (n : Nat) : TO (unm (tOp n)).k (tOp n).x := by
  unfold tOp
  split
  · exact to_sign 43 (by decide) (by decide) (by decide) (by decide) (by decide)
  split
  · exact to_sign 45 (by decide) (by decide) (by decide) (by decide) (by decide)
  split
  · exact to_sign 42 (by decide) (by decide) (by decide) (by decide) (by decide)
  split
  · exact to_sign 47 (by decide) (by decide) (by decide) (by decide) (by decide)
  · exact to_sign 38 (by decide) (by decide) (by decide) (by decide) (by decide)
theorem to_cmp (n : Nat) : TO (unm (tCmp n)).k (tCmp n).x := by
  unfold tCmp
  split
  · exact to_sign 60 (by decide) (by decide) (by decide) (by decide) (by decide)
  · exact to_sign 61 (by decide) (by decide) (by decide) (by decide) (by decide)
theorem to_if : TO (unm tIf).k tIf.x := to_word 105 [102] (by decide) (by decide) (by decide) (by decide)
theorem to_at : TO (unm tAt).k tAt.x := to_word 97 [116] (by decide) (by decide) (by decide) (by decide)
theorem to_bad : TO (unm tBad).k tBad.x := to_word 98 [97, 100] (by decide) (by decide) (by decide) (by decide)
theorem to_sum : TO (unm tSum).k tSum.x := to_word 115 [117, 109] (by decide) (by decide) (by decide) (by decide)
theorem to_count : TO (unm tCount).k tCount.x := to_word 99 [111, 117, 110, 116] (by decide) (by decide) (by decide) (by decide)
theorem to_true : TO (unm tTrue).k tTrue.x := to_word 116 [114, 117, 101] (by decide) (by decide) (by decide) (by decide)
theorem to_false : TO (unm tFalse).k tFalse.x := to_word 102 [97, 108, 115, 101] (by decide) (by decide) (by decide) (by decide)
theorem to_txt (r : List UInt8) (hr : ∀ a ∈ r, pbB (a.toNat : Int) = true) (h : r.length ≤ 20) : TO (unm (tText r)).k (tText r).x := to_text r hr h
theorem texts_ok (n : Nat) : (∀ a ∈ texts n, pbB (a.toNat : Int) = true) ∧ (texts n).length ≤ 20 := by
  unfold texts
  repeat' split
  all_goals exact ⟨by decide, by decide⟩
theorem cells12 : ∀ n : Nat, n < 12 → TO (unm (tCell n)).k (tCell n).x ∧ (cn (tCell n).x).2 = true ∧ ldHead (tCell n).x = true
  | 0, _ => ⟨to_word 65 [49] (by decide) (by decide) (by decide) (by decide), by decide, by decide⟩
  | 1, _ => ⟨to_word 66 [49] (by decide) (by decide) (by decide) (by decide), by decide, by decide⟩
  | 2, _ => ⟨to_word 67 [49] (by decide) (by decide) (by decide) (by decide), by decide, by decide⟩
  | 3, _ => ⟨to_word 68 [49] (by decide) (by decide) (by decide) (by decide), by decide, by decide⟩
  | 4, _ => ⟨to_word 69 [49] (by decide) (by decide) (by decide) (by decide), by decide, by decide⟩
  | 5, _ => ⟨to_word 70 [49] (by decide) (by decide) (by decide) (by decide), by decide, by decide⟩
  | 6, _ => ⟨to_word 65 [50] (by decide) (by decide) (by decide) (by decide), by decide, by decide⟩
  | 7, _ => ⟨to_word 66 [50] (by decide) (by decide) (by decide) (by decide), by decide, by decide⟩
  | 8, _ => ⟨to_word 67 [50] (by decide) (by decide) (by decide) (by decide), by decide, by decide⟩
  | 9, _ => ⟨to_word 68 [50] (by decide) (by decide) (by decide) (by decide), by decide, by decide⟩
  | 10, _ => ⟨to_word 69 [50] (by decide) (by decide) (by decide) (by decide), by decide, by decide⟩
  | 11, _ => ⟨to_word 70 [50] (by decide) (by decide) (by decide) (by decide), by decide, by decide⟩
  | n + 12, h => by omega
theorem nx_lt (n : Nat) (hn : 0 < n) (fd : List UInt8) : (nx n fd).1 < n := by
  cases fd with
  | nil => exact hn
  | cons c r => exact Nat.mod_lt _ hn
theorem dec1 (u : Nat) (h : u < 10) : Lib.decDigits u = [UInt8.ofNat (48 + u)] := by rw [Lib.decDigits, dif_pos h]
theorem dec2 (u : Nat) (h : 10 ≤ u) (h2 : u < 100) : Lib.decDigits u = [UInt8.ofNat (48 + u / 10), UInt8.ofNat (48 + u % 10)] := by
  rw [Lib.decDigits, dif_neg (by omega), dec1 (u / 10) (by omega)]; rfl
theorem dec3 (u : Nat) (h : 100 ≤ u) (h2 : u < 1000) : Lib.decDigits u = [UInt8.ofNat (48 + u / 10 / 10), UInt8.ofNat (48 + u / 10 % 10), UInt8.ofNat (48 + u % 10)] := by
  rw [Lib.decDigits, dif_neg (by omega), dec2 (u / 10) (by omega) (by omega)]; rfl
theorem ofNat_digit (q : Nat) (h : q < 10) : (UInt8.ofNat (48 + q)).toNat = 48 + q := by
  rw [UInt8.toNat_ofNat']; omega
theorem dg_digit (q : Nat) (h : q < 10) : dgB ((UInt8.ofNat (48 + q)).toNat : Int) = true := by
  rw [ofNat_digit q h]; unfold dgB; simp; omega
theorem ne48 (q : Nat) (h : q < 10) (h0 : q ≠ 0) : (UInt8.ofNat (48 + q) == 48) = false := by
  rw [beq_eq_false_iff_ne]
  intro e
  have := congrArg UInt8.toNat e
  rw [ofNat_digit q h] at this
  have h48 : (48 : UInt8).toNat = 48 := rfl
  omega
theorem val_small : ∀ (l : List UInt8) (acc : Nat), (∀ c ∈ l, dgB (c.toNat : Int) = true) → l.foldl (fun n c => 10 * n + (c.toNat - 48)) acc < (acc + 1) * 10 ^ l.length
  | [], acc, _ => by simp
  | c :: r, acc, h => by
    have hc := h c List.mem_cons_self
    unfold dgB at hc
    simp only [decide_eq_true_eq] at hc
    have := val_small r (10 * acc + (c.toNat - 48)) fun a ha => h a (List.mem_cons_of_mem _ ha)
    rw [List.foldl_cons, List.length_cons, Nat.pow_succ]
    refine Nat.lt_of_lt_of_le this ?_
    have e : (acc + 1) * (10 ^ r.length * 10) = (10 * acc + 10) * 10 ^ r.length := by
      rw [Nat.mul_comm (10 ^ r.length), ← Nat.mul_assoc]; congr 1; omega
    rw [e]
    exact Nat.mul_le_mul_right _ (by omega)
theorem num_ok (c : UInt8) (r : List UInt8) (hr : ∀ a ∈ c :: r, dgB (a.toNat : Int) = true) (h : r.length ≤ 2) (h0 : r = [] ∨ (c == 48) = false) : TO (unm (tNum (c :: r))).k (tNum (c :: r)).x ∧ nzT (c :: r) = c :: r := by
  refine ⟨to_num c r hr (by omega) ?_, ?_⟩
  · have := val_small (c :: r) 0 hr
    have e : (0 + 1) * 10 ^ (c :: r).length ≤ 1000 := by
      have : (10 : Nat) ^ (c :: r).length ≤ 10 ^ 3 := Nat.pow_le_pow_right (by omega) (by simp only [List.length_cons]; omega)
      omega
    unfold valN
    omega
  · unfold nzT
    rw [List.dropWhile_cons]
    cases hc : (c == 48)
    · simp
    · rcases h0 with h0 | h0
      · subst h0
        have : c = 48 := by simpa using hc
        simp [this]
      · rw [hc] at h0; cases h0
theorem dec_ok (u : Nat) (h : u < 200) : TO (unm (tNum (Lib.decDigits u))).k (tNum (Lib.decDigits u)).x ∧ nzT (Lib.decDigits u) = Lib.decDigits u := by
  by_cases h1 : u < 10
  · rw [dec1 u h1]
    exact num_ok _ [] (by simp only [List.mem_cons, List.not_mem_nil, or_false, forall_eq]; exact dg_digit u h1) (by simp) (Or.inl rfl)
  by_cases h2 : u < 100
  · rw [dec2 u (by omega) h2]
    refine num_ok _ _ ?_ (by simp) (Or.inr (ne48 _ (by omega) (by omega)))
    intro a ha
    simp only [List.mem_cons, List.not_mem_nil, or_false] at ha
    rcases ha with rfl | rfl
    · exact dg_digit _ (by omega)
    · exact dg_digit _ (by omega)
  · rw [dec3 u (by omega) (by omega)]
    refine num_ok _ _ ?_ (by simp) (Or.inr (ne48 _ (by omega) (by omega)))
    intro a ha
    simp only [List.mem_cons, List.not_mem_nil, or_false] at ha
    rcases ha with rfl | rfl | rfl
    · exact dg_digit _ (by omega)
    · exact dg_digit _ (by omega)
    · exact dg_digit _ (by omega)
theorem fg_one {t : Tk} (hk : t.k ∈ [1, 2, 3, 4, 5]) (h : TO (unm t).k t.x) (hn : t.k = 1 → nzT t.x = t.x) (hc : t.k = 5 → (cn t.x).2 = true) : FG 0 [t] where
  is := is_form (is_sum (is_prod (is_one hk)))
  good := one_good h hn
  ck := by
    by_cases h5 : t.k = 5
    · exact ck_cell h5 (hc h5) (by simp [kindAt]) ck_nil
    · exact ck_other h5 ck_nil
  ne := by simp
  h15 := by intro e; have e : t.k = 15 := e; rw [e] at hk; revert hk; decide
theorem fg_text (r : List UInt8) (hr : ∀ a ∈ r, pbB (a.toNat : Int) = true) (h : r.length ≤ 20) : FG 0 [tText r] := fg_one (show (2 : Int) ∈ [1, 2, 3, 4, 5] by decide) (to_txt r hr h) (by intro e; cases e) (by intro e; cases e)
theorem fg_cell (n : Nat) (h : n < 12) : FG 0 [tCell n] := fg_one (show (5 : Int) ∈ [1, 2, 3, 4, 5] by decide) (cells12 n h).1 (by intro e; cases e) (fun _ => (cells12 n h).2.1)
theorem fg_closed {g : List Tk} (hg : Good g) : Good (g ++ [tClose]) := good_app hg (one_good to_close (by intro e; cases e)) (fun u r e => by cases e; decide)
theorem ck_closed {g : List Tk} (hg : CK g) : CK (g ++ [tClose]) := ck_app hg (ck_other (by decide) ck_nil) (by simp) (by decide)
theorem br_is {n : Nat} {g : List Tk} (h : FG n g) : Is 3 (n + 1) (tOpen :: (g ++ [tClose])) := is_bracket rfl rfl h.is
theorem br_good {n : Nat} {g : List Tk} (h : FG n g) : Good (tOpen :: (g ++ [tClose])) := cons_good to_open (by decide) (by decide) (fg_closed h.good)
theorem br_ck {n : Nat} {g : List Tk} (h : FG n g) : CK (tOpen :: (g ++ [tClose])) := ck_other (by decide) (ck_closed h.ck)
theorem fg_br {n : Nat} {g : List Tk} (h : FG n g) : FG (n + 1) (tOpen :: (g ++ [tClose])) := ⟨is_form (is_sum (is_prod (br_is h))), br_good h, br_ck h, by simp, show (12 : Int) ≠ 15 by decide⟩
theorem fg_call {n : Nat} {g : List Tk} {wd : Tk} (hw : wd.k ∈ [7, 8]) (ht : TO (unm wd).k wd.x) (h : FG n g) : FG (n + 1) (wd :: tOpen :: (g ++ [tClose])) where
  is := is_form (is_sum (is_prod (is_call hw rfl rfl h.is)))
  good := word_good ht (by intro e; rw [e] at hw; revert hw; decide) (by decide) (br_good h)
  ck := ck_other (by intro e; rw [e] at hw; revert hw; decide) (br_ck h)
  ne := by simp
  h15 := by intro e; have e : wd.k = 15 := e; rw [e] at hw; revert hw; decide
theorem two_good {n m : Nat} {a b : List Tk} {o : Tk} (ha : FG n a) (hb : FG m b) (ho : TO (unm o).k o.x) (h1 : o.k ≠ 1) (hl : ldHead o.x = false) : Good (a ++ o :: b) :=
  good_app ha.good (cons_good ho h1 hl hb.good) (fun u r e => by cases e; exact hl)
theorem two_ck {n m : Nat} {a b : List Tk} {o : Tk} (ha : FG n a) (hb : FG m b) (h5 : o.k ≠ 5) (h15 : o.k ≠ 15) : CK (a ++ o :: b) := ck_app ha.ck (ck_other h5 hb.ck) (by simp) h15
theorem two_head {a b : List Tk} {o : Tk} (ha : a ≠ []) (h : kindAt a 0 ≠ 15) : kindAt (a ++ o :: b) 0 ≠ 15 := by
  match a, ha with
  | x :: r, _ => exact h
theorem op_k (n : Nat) : (tOp n).k ∈ [16, 17, 18, 19, 20] ∧ ldHead (tOp n).x = false := by
  unfold tOp
  repeat' split
  all_goals exact ⟨by decide, by decide⟩
theorem cmp_k (n : Nat) : (tCmp n).k ∈ [21, 22] ∧ ldHead (tCmp n).x = false := by
  unfold tCmp
  split
  all_goals exact ⟨by decide, by decide⟩
theorem ranges_ok {wd a b : Tk} (hw : wd.k ∈ [9, 10]) (ht : TO (unm wd).k wd.x) (ta : TO (unm a).k a.x) (tb : TO (unm b).k b.x) (ha : a.k = 5) (hb : b.k = 5) (hbad : badA (cn a.x) (cn b.x) = false) :
    FG 1 [wd, tOpen, a, tColon, b, tClose] where
  is := is_form (is_sum (is_prod (is_range hw rfl rfl ha rfl hb)))
  good := word_good ht (by intro e; rw [e] at hw; revert hw; decide) (by decide) (cons_good to_open (by decide) (by decide)
    (word_good ta (by omega) (by decide) (cons_good to_colon (by decide) (by decide) (word_good tb (by omega) (by decide) (one_good to_close (by intro e; cases e))))))
  ck := ck_other (by intro e; rw [e] at hw; revert hw; decide) (ck_other (by decide) (ck_range ha rfl hbad (ck_other (by decide) ck_nil)))
  ne := by simp
  h15 := by intro e; have e : wd.k = 15 := e; rw [e] at hw; revert hw; decide
theorem fg_ranges (n : Nat) : FG 1 (ranges n) := by
  unfold ranges
  split
  · exact ranges_ok (by decide) to_sum (cells12 0 (by omega)).1 (cells12 8 (by omega)).1 rfl rfl (by decide)
  split
  · exact ranges_ok (by decide) to_count (cells12 0 (by omega)).1 (cells12 5 (by omega)).1 rfl rfl (by decide)
  split
  · exact ranges_ok (by decide) to_sum (cells12 7 (by omega)).1 (cells12 7 (by omega)).1 rfl rfl (by decide)
  · exact ranges_ok (by decide) to_count (cells12 3 (by omega)).1 (cells12 11 (by omega)).1 rfl rfl (by decide)
theorem fg_neg (n : Nat) (h : n < 12) : FG 0 [tNeg, tCell n] where
  is := is_form (is_sum (is_prod (is_neg rfl (show (5 : Int) ∈ [1, 2, 3, 4, 5] by decide))))
  good := cons_good to_neg (by decide) (by decide) (fg_cell n h).good
  ck := ck_other (by decide) (fg_cell n h).ck
  ne := by simp
  h15 := show (23 : Int) ≠ 15 by decide
theorem fg_if {n : Nat} {a b c : List Tk} (ha : FG n a) (hb : FG n b) (hc : FG n c) : FG (n + 1) (tIf :: tOpen :: ((a ++ tComma :: (b ++ tComma :: c)) ++ [tClose])) := by
  have gb : Good (b ++ tComma :: c) := two_good hb hc to_comma (by decide) (by decide)
  have kb : CK (b ++ tComma :: c) := two_ck hb hc (by decide) (by decide)
  have ga : Good (a ++ tComma :: (b ++ tComma :: c)) := good_app ha.good (cons_good to_comma (by decide) (by decide) gb) (fun u r e => by cases e; decide)
  have ka : CK (a ++ tComma :: (b ++ tComma :: c)) := ck_app ha.ck (ck_other (by decide) kb) (by simp) (show (14 : Int) ≠ 15 by decide)
  exact ⟨is_form (is_sum (is_prod (is_if rfl rfl rfl rfl rfl ha.is hb.is hc.is))),
    word_good to_if (by decide) (by decide) (cons_good to_open (by decide) (by decide) (fg_closed ga)),
    ck_other (by decide) (ck_other (by decide) (ck_closed ka)), by simp, show (6 : Int) ≠ 15 by decide⟩
theorem fg_cmp {n j : Nat} {a b : List Tk} (ha : FG n a) (hb : FG n b) (ia : Is 1 n a) (ib : Is 1 n b) : FG n (a ++ tCmp j :: b) where
  is := is_cmp ia ib (cmp_k j).1
  good := two_good ha hb (to_cmp j) (by intro e; have := (cmp_k j).1; rw [e] at this; revert this; decide) (cmp_k j).2
  ck := two_ck ha hb (by intro e; have := (cmp_k j).1; rw [e] at this; revert this; decide) (by intro e; have := (cmp_k j).1; rw [e] at this; revert this; decide)
  ne := by simp
  h15 := two_head ha.ne ha.h15
theorem fg_op {n j : Nat} {a b : List Tk} (ha : FG n a) (hb : FG n b) : FG (n + 1) ((tOpen :: (a ++ [tClose])) ++ tOp j :: (tOpen :: (b ++ [tClose]))) := by
  have hk := (op_k j).1
  refine ⟨?_, two_good (fg_br ha) (fg_br hb) (to_op j) (by intro e; rw [e] at hk; revert hk; decide) (op_k j).2,
    two_ck (fg_br ha) (fg_br hb) (by intro e; rw [e] at hk; revert hk; decide) (by intro e; rw [e] at hk; revert hk; decide), by simp, show (12 : Int) ≠ 15 by decide⟩
  simp only [List.mem_cons, List.not_mem_nil, or_false] at hk
  by_cases h1 : (tOp j).k ∈ [18, 19]
  · exact is_form (is_sum (is_mul (br_is ha) (is_prod (br_is hb)) h1))
  · exact is_form (is_add (is_prod (br_is ha)) (is_sum (is_prod (br_is hb))) (by simp only [List.mem_cons, List.not_mem_nil, or_false] at h1 ⊢; omega))
theorem fg_ats (j q : Nat) (hq : q < 12) : FG 0 (ats j q) := by
  unfold ats
  split
  · have a := fg_text [65] (by decide) (by decide)
    have b := fg_text [49] (by decide) (by decide)
    exact ⟨is_form (is_add (is_prod (is_one (show (2 : Int) ∈ [1, 2, 3, 4, 5] by decide))) (is_sum (is_prod (is_one (show (2 : Int) ∈ [1, 2, 3, 4, 5] by decide)))) (by decide)),
      two_good a b (to_op 4) (by decide) (by decide), two_ck a b (by decide) (by decide), by simp, show (2 : Int) ≠ 15 by decide⟩
  split
  · exact fg_text [66, 50] (by decide) (by decide)
  · exact fg_cell q hq
theorem gen_fg : ∀ (deep : Nat) (fd : List UInt8), FG deep (gen deep fd).1 ∧ Is 1 deep (gen deep fd).1
  | 0, fd => by
    have one : ∀ t : Tk, t.k ∈ [1, 2, 3, 4, 5] → FG 0 [t] → FG 0 [t] ∧ Is 1 0 [t] := fun t hk h => ⟨h, is_sum (is_prod (is_one hk))⟩
    unfold gen
    by_cases h0 : (nx 6 fd).1 = 0
    · rw [if_pos h0]
      have h := dec_ok (nx 200 (nx 6 fd).2).1 (nx_lt 200 (by omega) _)
      exact one _ (show (1 : Int) ∈ [1, 2, 3, 4, 5] by decide) (fg_one (show (1 : Int) ∈ [1, 2, 3, 4, 5] by decide) h.1 (fun _ => h.2) (by intro e; cases e))
    rw [if_neg h0]
    by_cases h1 : (nx 6 fd).1 = 1
    · rw [if_pos h1]
      have h := texts_ok (nx 6 (nx 6 fd).2).1
      exact one _ (show (2 : Int) ∈ [1, 2, 3, 4, 5] by decide) (fg_text _ h.1 h.2)
    rw [if_neg h1]
    by_cases h2 : (nx 6 fd).1 = 2
    · rw [if_pos h2]
      simp only
      split
      · exact one _ (by decide) (fg_one (by decide) to_true (by intro e; cases e) (by intro e; cases e))
      split
      · exact one _ (by decide) (fg_one (by decide) to_false (by intro e; cases e) (by intro e; cases e))
      · exact one _ (by decide) (fg_one (by decide) (to_num 57 [50, 50, 51, 51, 55, 50, 48, 51, 54, 56, 53, 52, 55, 55, 53, 56, 48, 55] (by decide) (by decide) (by decide)) (by intro _; decide) (by intro e; cases e))
    rw [if_neg h2]
    exact one _ (show (5 : Int) ∈ [1, 2, 3, 4, 5] by decide) (fg_cell _ (nx_lt 12 (by omega) _))
  | deep + 1, fd => by
    have ih := gen_fg deep
    have up : ∀ {n : Nat} {g : List Tk}, n ≤ deep + 1 → FG n g → Is 1 n g → FG (deep + 1) g ∧ Is 1 (deep + 1) g := fun hn h1 h2 => ⟨h1.more hn, h2.more hn⟩
    unfold gen
    by_cases h0 : (nx 9 fd).1 = 0
    · rw [if_pos h0]
      simp only
      have a := (ih (nx 9 fd).2).1
      generalize gen deep (nx 9 fd).2 = x at *
      have b := (ih x.2).1
      generalize gen deep x.2 = y at *
      have c := (ih y.2).1
      exact ⟨fg_if a b c, is_sum (is_prod (is_if rfl rfl rfl rfl rfl a.is b.is c.is))⟩
    rw [if_neg h0]
    by_cases h1 : (nx 9 fd).1 = 1
    · rw [if_pos h1]
      simp only
      have a := fg_ats (nx 3 (nx 12 (nx 9 fd).2).2).1 (nx 12 (nx 9 fd).2).1 (nx_lt 12 (by omega) _)
      exact up (n := 1) (by omega) (fg_call (by decide) to_at a) (is_sum (is_prod (is_call (by decide) rfl rfl a.is)))
    rw [if_neg h1]
    by_cases h2 : (nx 9 fd).1 = 2
    · rw [if_pos h2]
      simp only
      have a := (ih (nx 9 fd).2).1
      exact ⟨fg_call (by decide) to_bad a, is_sum (is_prod (is_call (by decide) rfl rfl a.is))⟩
    rw [if_neg h2]
    by_cases h3 : (nx 9 fd).1 = 3
    · rw [if_pos h3]
      simp only
      have a := fg_ranges (nx 4 (nx 9 fd).2).1
      refine up (n := 1) (by omega) a ?_
      unfold ranges
      split
      · exact is_sum (is_prod (is_range (by decide) rfl rfl rfl rfl rfl))
      split
      · exact is_sum (is_prod (is_range (by decide) rfl rfl rfl rfl rfl))
      split
      · exact is_sum (is_prod (is_range (by decide) rfl rfl rfl rfl rfl))
      · exact is_sum (is_prod (is_range (by decide) rfl rfl rfl rfl rfl))
    rw [if_neg h3]
    by_cases h4 : (nx 9 fd).1 = 4
    · rw [if_pos h4]
      simp only
      have a := ih (nx 9 fd).2
      generalize gen deep (nx 9 fd).2 = x at *
      have b := ih (nx 2 x.2).2
      have c := fg_cmp (j := (nx 2 x.2).1) a.1 b.1 a.2 b.2
      exact ⟨fg_br c, is_sum (is_prod (br_is c))⟩
    rw [if_neg h4]
    by_cases h5 : (nx 9 fd).1 = 5
    · rw [if_pos h5]
      simp only
      exact up (n := 0) (by omega) (fg_neg _ (nx_lt 12 (by omega) _)) (is_sum (is_prod (is_neg rfl (show (5 : Int) ∈ [1, 2, 3, 4, 5] by decide))))
    rw [if_neg h5]
    simp only
    have a := (ih (nx 9 fd).2).1
    generalize gen deep (nx 9 fd).2 = x at *
    have b := (ih (nx 5 x.2).2).1
    have hk := (op_k (nx 5 x.2).1).1
    refine ⟨fg_op a b, ?_⟩
    by_cases h1 : (tOp (nx 5 x.2).1).k ∈ [18, 19]
    · exact is_sum (is_mul (br_is a) (is_prod (br_is b)) h1)
    · exact is_add (is_prod (br_is a)) (is_sum (is_prod (br_is b))) (by simp only [List.mem_cons, List.not_mem_nil, or_false] at h1 hk ⊢; omega)
end Go.Proofs.YtlpmmmmniojflaaGreatDoor
/- Plain mathematics: a text with its blanks struck and others put in has the same tokens. -/
namespace Go.Proofs.YtlpmmmmniojflaaGreatDoor
def nq (c : Int) : Bool := decide (c ≠ 34)
end Go.Proofs.YtlpmmmmniojflaaGreatDoor
