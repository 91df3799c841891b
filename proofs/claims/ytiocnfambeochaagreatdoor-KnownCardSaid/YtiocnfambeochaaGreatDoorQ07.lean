/- Texts put together. -/
import Derived.Test.YtiocnfambeochaaGreatDoorTurn
/- Plain mathematics: the three orders come to an end, and then all cells are settled. -/
set_option linter.unusedVariables false
set_option linter.unusedSimpArgs false
namespace Go.Proofs.YtiocnfambeochaaGreatDoor

def iter {S : Type} (f : S → S) : Nat → S → S
  | 0, s => s
  | n + 1, s => iter f n (f s)
def Ends {S : Type} (f : S → S) (fin : S → Bool) (s s' : S) : Prop := ∃ n, iter f n s = s' ∧ fin s' = true ∧ ∀ k, k < n → fin (iter f k s) = false
theorem Ends.here {S : Type} {f : S → S} {fin : S → Bool} {s : S} (h : fin s = true) : Ends f fin s s := ⟨0, rfl, h, fun k hk => absurd hk (by omega)⟩
theorem Ends.step {S : Type} {f : S → S} {fin : S → Bool} {s s' : S} (h : fin s = false) (he : Ends f fin (f s) s') : Ends f fin s s' := by
  obtain ⟨n, h1, h2, h3⟩ := he
  refine ⟨n + 1, h1, h2, fun k hk => ?_⟩
  cases k with
  | zero => exact h
  | succ k => exact h3 k (by omega)
theorem Ends.same {S : Type} {f : S → S} {fin : S → Bool} {s s1 s2 : S} (h1 : Ends f fin s s1) (h2 : Ends f fin s s2) : s1 = s2 := by
  obtain ⟨n, a1, a2, a3⟩ := h1
  obtain ⟨m, b1, b2, b3⟩ := h2
  rcases Nat.lt_trichotomy n m with h | h | h
  · have := b3 n h; rw [a1, a2] at this; cases this
  · subst h; rw [← a1, ← b1]
  · have := a3 m h; rw [b1, b2] at this; cases this
theorem ends_of {S : Type} {f : S → S} {fin : S → Bool} (P : S → Prop) (m : S → Nat) (hs : ∀ s, P s → fin s = false → P (f s) ∧ m (f s) < m s) : ∀ (k : Nat) (s : S), m s ≤ k → P s → ∃ s', Ends f fin s s' ∧ P s' := by
  intro k
  induction k with
  | zero =>
    intro s hm hP
    cases hf : fin s with
    | true => exact ⟨s, Ends.here hf, hP⟩
    | false => have := (hs s hP hf).2; omega
  | succ k ih =>
    intro s hm hP
    cases hf : fin s with
    | true => exact ⟨s, Ends.here hf, hP⟩
    | false =>
      obtain ⟨h1, h2⟩ := hs s hP hf
      obtain ⟨s', g1, g2⟩ := ih (f s) (by omega) h1
      exact ⟨s', g1.step hf, g2⟩

theorem countP_same {l : List Nat} {p q : Nat → Bool} (h : ∀ x ∈ l, q x = p x) : l.countP q = l.countP p := by
  induction l with
  | nil => rfl
  | cons a l ih =>
    rw [List.countP_cons, List.countP_cons, ih (fun x hx => h x (List.mem_cons_of_mem _ hx)), h a List.mem_cons_self]
theorem countP_one {l : List Nat} (hl : l.Nodup) {p q : Nat → Bool} {c : Nat} (hc : c ∈ l) (h : ∀ x, x ≠ c → q x = p x) (hp : p c = false) (hq : q c = true) : l.countP q = l.countP p + 1 := by
  induction l with
  | nil => cases hc
  | cons a l ih =>
    rw [List.nodup_cons] at hl
    rw [List.countP_cons, List.countP_cons]
    by_cases e : a = c
    · subst e
      rw [countP_same (l := l) (p := p) (q := q) (fun x hx => h x (fun e => hl.1 (e ▸ hx))), hp, hq]
      simp
    · have hc' : c ∈ l := by
        rcases List.mem_cons.1 hc with h | h
        · exact absurd h.symm e
        · exact h
      rw [ih hl.2 hc', h a e]
      omega
def unsB (r : Rn) (c : Nat) : Bool := decide ((r.tk c).st ≠ 3)
def waitB (r : Rn) (c : Nat) : Bool := decide ((r.tk c).st ≠ 3) && (decide (0 ≤ (r.tk c).wt) && decide ((r.tk (r.tk c).wt.toNat).st ≠ 3))
def cu (r : Rn) : Nat := (List.range 48).countP (unsB r)
def cw (r : Rn) : Nat := (List.range 48).countP (waitB r)
theorem cu_le (r : Rn) : cu r ≤ 48 := by
  have := List.countP_le_length (p := unsB r) (l := List.range 48)
  rw [List.length_range] at this; exact this
theorem cw_le (r : Rn) : cw r ≤ 48 := by
  have := List.countP_le_length (p := waitB r) (l := List.range 48)
  rw [List.length_range] at this; exact this
def msr (r : Rn) : Nat := 49 * cu r + (48 - cw r)
theorem msr_le (r : Rn) : msr r ≤ 2400 := by have := cu_le r; unfold msr; omega

theorem frm_settled {r r' : Rn} {c : Nat} (hf : Frm r r' c) (hlt : c < 48) (h : (r.tk c).st ≠ 3) (h' : (r'.tk c).st = 3) : msr r' < msr r := by
  have h1 : cu r = cu r' + 1 := by
    refine countP_one List.nodup_range (List.mem_range.2 hlt) (fun x hx => ?_) ?_ ?_
    · unfold unsB; rw [hf.tk x hx]
    · simp [unsB, h']
    · simp [unsB, h]
  have := cw_le r'
  unfold msr
  omega
theorem frm_waits {r r' : Rn} {c o : Nat} (hf : Frm r r' c) (hlt : c < 48) (h : waitB r c = false) (hu : (r.tk c).st ≠ 3) (hw : Waits r' c o) : msr r' < msr r := by
  have hst : ∀ x, ((r'.tk x).st ≠ 3) ↔ ((r.tk x).st ≠ 3) := by
    intro x
    by_cases hx : x = c
    · subst hx; exact ⟨fun _ => hu, fun _ => hw.mine⟩
    · rw [hf.tk x hx]
  have h1 : cu r' = cu r := countP_same fun x _ => by unfold unsB; rw [decide_eq_decide]; exact hst x
  have h2 : cw r' = cw r + 1 := by
    refine countP_one List.nodup_range (List.mem_range.2 hlt) (fun x hx => ?_) h ?_
    · unfold waitB
      rw [hf.tk x hx]
      congr 2
      rw [decide_eq_decide]
      exact hst _
    · unfold waitB
      rw [hw.wt]
      simp [hw.mine, hw.open']
  have := cw_le r'
  unfold msr
  omega

theorem no_ring {wt : Nat → Int} (h : EndW wt) {x m : Nat} (hr : along wt (m + 1) x = x) : False := by
  have add : ∀ (a b : Nat) (y : Int), along wt (a + b) y = along wt b (along wt a y) := by
    intro a
    induction a with
    | zero => intro b y; rw [Nat.zero_add]; rfl
    | succ a ih => intro b y; rw [Nat.succ_add]; exact ih b _
  have neg : ∀ n, along wt n (-1) = -1 := by
    intro n
    induction n with
    | zero => rfl
    | succ n ih => exact ih
  have loop : ∀ k, along wt (k * (m + 1)) x = x := by
    intro k
    induction k with
    | zero => rw [Nat.zero_mul]; rfl
    | succ k ih => rw [Nat.succ_mul, add, ih, hr]
  obtain ⟨n, hn⟩ := h x
  have h1 := loop n
  have : n * (m + 1) = n + n * m := by rw [Nat.mul_add, Nat.mul_one, Nat.add_comm]
  rw [this, add, hn, neg] at h1
  omega

def Stk (r : Rn) : List Nat → Prop
  | [] => True
  | [_] => True
  | a :: b :: t => (r.tk b).wt = a ∧ (r.tk b).st ≠ 3 ∧ Stk r (b :: t)
structure SI (r : Rn) (l : List Nat) : Prop where
  stk : Stk r l
  nd : l.Nodup
  lt : ∀ x ∈ l, x < 48
  only : ∀ x, waitB r x = true → x ∈ l.tail
theorem Stk.along {r : Rn} : ∀ (l : List Nat) (a : Nat), Stk r (a :: l) → ∀ x ∈ l, ∃ m, along r.wts (m + 1) x = a
  | [], _, _, x, hx => by cases hx
  | b :: t, a, ⟨h1, h2, h3⟩, x, hx => by
    rcases List.mem_cons.1 hx with rfl | hx
    · refine ⟨0, ?_⟩
      show (if 0 ≤ (x : Int) then r.wts (x : Int).toNat else -1) = a
      rw [if_pos (by omega), Int.toNat_natCast]; exact h1
    · obtain ⟨m, hm⟩ := Stk.along t b h3 x hx
      refine ⟨m + 1, ?_⟩
      have add : ∀ (a b : Nat) (y : Int), Go.Proofs.YtiocnfambeochaaGreatDoor.along r.wts (a + b) y = Go.Proofs.YtiocnfambeochaaGreatDoor.along r.wts b (Go.Proofs.YtiocnfambeochaaGreatDoor.along r.wts a y) := by
        intro a
        induction a with
        | zero => intro b y; rw [Nat.zero_add]; rfl
        | succ a ih => intro b y; rw [Nat.succ_add]; exact ih b _
      rw [show m + 1 + 1 = (m + 1) + 1 from rfl, add, hm]
      show (if 0 ≤ (b : Int) then r.wts (b : Int).toNat else -1) = a
      rw [if_pos (by omega), Int.toNat_natCast]; exact h1
theorem Stk.frm {r r' : Rn} {c : Nat} (hf : Frm r r' c) : ∀ (l : List Nat), c ∉ l.tail → Stk r l → Stk r' l
  | [], _, _ => trivial
  | [_], _, _ => trivial
  | a :: b :: t, hn, ⟨h1, h2, h3⟩ => by
    have hb : b ≠ c := fun e => hn (by rw [e]; exact List.mem_cons_self)
    refine ⟨by rw [hf.tk b hb]; exact h1, by rw [hf.tk b hb]; exact h2, Stk.frm hf (b :: t) (fun hm => hn ?_) h3⟩
    exact List.mem_cons_of_mem _ hm
section
variable {E : Env} {val : Nat → V} {S0 : Con} {Cl : Nat → Prop} {X : Nat → Ans → Prop} {r r' : Rn} {cs : List Nat} {c o : Nat} {t : List Nat}
theorem SI.first (h : SI r (c :: t)) : waitB r c = false := by
  cases e : waitB r c with
  | false => rfl
  | true => exact absurd (h.only c e) (List.nodup_cons.1 h.nd).1
theorem SI.fail (h : SI r (c :: t)) (hi : Inv E val S0 Cl X r' cs) (hf : Frm r r' c) (hu : (r.tk c).st ≠ 3) (hw : Waits r' c o) : SI r' (o :: c :: t) := by
  have hct := (List.nodup_cons.1 h.nd).1
  have hs : Stk r' (c :: t) := Stk.frm hf _ hct h.stk
  have ho : o ∉ t := by
    intro hm
    obtain ⟨m, hm⟩ := Stk.along t c hs o hm
    refine no_ring hi.ends (x := c) (m := m + 1) ?_
    show along r'.wts (m + 1) (if 0 ≤ (c : Int) then r'.wts (c : Int).toNat else -1) = c
    rw [if_pos (by omega), Int.toNat_natCast]
    show along r'.wts (m + 1) (r'.tk c).wt = c
    rw [hw.wt]; exact hm
  refine { stk := ⟨hw.wt, hw.mine, hs⟩, nd := ?_, lt := ?_, only := ?_ }
  · rw [List.nodup_cons]
    refine ⟨fun hm => ?_, h.nd⟩
    rcases List.mem_cons.1 hm with e | hm
    · exact hw.ne e
    · exact ho hm
  · intro x hx
    rcases List.mem_cons.1 hx with rfl | hx
    · exact hw.lt
    · exact h.lt x hx
  · intro x hx
    show x ∈ c :: t
    by_cases e : x = c
    · rw [e]; exact List.mem_cons_self
    · have : waitB r x = true := by
        unfold waitB at hx ⊢
        rw [hf.tk x e] at hx
        simp only [Bool.and_eq_true, decide_eq_true_eq] at hx ⊢
        refine ⟨hx.1, hx.2.1, ?_⟩
        by_cases e2 : (r.tk x).wt.toNat = c
        · rw [e2]; exact hu
        · rw [← hf.tk _ e2]; exact hx.2.2
      exact List.mem_cons_of_mem _ (h.only x this)
theorem SI.pop (h : SI r (c :: t)) (hf : Frm r r' c) (h3 : (r'.tk c).st = 3) : SI r' t := by
  have hct := (List.nodup_cons.1 h.nd).1
  have hs : Stk r' (c :: t) := Stk.frm hf _ hct h.stk
  refine { stk := ?_, nd := (List.nodup_cons.1 h.nd).2, lt := fun x hx => h.lt x (List.mem_cons_of_mem _ hx), only := ?_ }
  · cases t with
    | nil => trivial
    | cons b t => exact hs.2.2
  · intro x hx
    have e : x ≠ c := by
      intro e
      subst e
      simp [waitB, h3] at hx
    unfold waitB at hx
    simp only [Bool.and_eq_true, decide_eq_true_eq] at hx
    have e2 : (r'.tk x).wt.toNat ≠ c := by
      intro e2
      rw [e2] at hx
      exact hx.2.2 h3
    have : waitB r x = true := by
      unfold waitB
      rw [hf.tk x e] at hx e2
      rw [hf.tk _ e2] at hx
      simp only [Bool.and_eq_true, decide_eq_true_eq]
      exact hx
    have hm : x ∈ t := h.only x this
    cases t with
    | nil => cases hm
    | cons b t =>
      rcases List.mem_cons.1 hm with rfl | hm
      · exfalso
        have : (r'.tk x).wt = c := hs.1
        rw [this] at e2
        exact e2 (Int.toNat_natCast c)
      · exact hm
theorem SI.leave {l : List Nat} (h : SI r l) (h3 : (r.tk c).st ≠ 3) : SI (leaveP r c) l := by
  have hst : ∀ x, (((leaveP r c).tk x).st ≠ 3) ↔ ((r.tk x).st ≠ 3) := by
    intro x
    unfold leaveP
    by_cases hx : x = c
    · subst hx; rw [put_same]; exact ⟨fun _ => h3, fun _ => by show 0 ≠ 3; decide⟩
    · rw [put_ne _ _ _ hx]
  have hwt : ∀ x, ((leaveP r c).tk x).wt = (r.tk x).wt := by
    intro x
    unfold leaveP
    by_cases hx : x = c
    · subst hx; rw [put_same]
    · rw [put_ne _ _ _ hx]
  have hwb : ∀ x, waitB (leaveP r c) x = waitB r x := by
    intro x
    unfold waitB
    rw [hwt x]
    congr 1
    · rw [decide_eq_decide]; exact hst x
    · congr 1
      rw [decide_eq_decide]; exact hst _
  refine { stk := ?_, nd := h.nd, lt := h.lt, only := fun x hx => h.only x (by rw [← hwb]; exact hx) }
  have : ∀ l, Stk r l → Stk (leaveP r c) l := by
    intro l
    induction l with
    | nil => intro _; trivial
    | cons a l ih =>
      cases l with
      | nil => intro _; trivial
      | cons b l => intro ⟨g1, g2, g3⟩; exact ⟨by rw [hwt]; exact g1, (hst b).2 g2, ih g3⟩
  exact this _ h.stk
theorem msr_leave (h3 : (r.tk c).st ≠ 3) : msr (leaveP r c) = msr r := by
  have hst : ∀ x, (((leaveP r c).tk x).st ≠ 3) ↔ ((r.tk x).st ≠ 3) := by
    intro x
    unfold leaveP
    by_cases hx : x = c
    · subst hx; rw [put_same]; exact ⟨fun _ => h3, fun _ => by show 0 ≠ 3; decide⟩
    · rw [put_ne _ _ _ hx]
  have hwt : ∀ x, ((leaveP r c).tk x).wt = (r.tk x).wt := by
    intro x
    unfold leaveP
    by_cases hx : x = c
    · subst hx; rw [put_same]
    · rw [put_ne _ _ _ hx]
  have h1 : cu (leaveP r c) = cu r := countP_same fun x _ => by unfold unsB; rw [decide_eq_decide]; exact hst x
  have h2 : cw (leaveP r c) = cw r := countP_same fun x _ => by
    unfold waitB
    rw [hwt x]
    congr 1
    · rw [decide_eq_decide]; exact hst x
    · congr 1
      rw [decide_eq_decide]; exact hst _
  unfold msr
  rw [h1, h2]
end

theorem turn_less {E : Env} {val : Nat → V} {S0 : Con} {Cl : Nat → Prop} {X : Nat → Ans → Prop} {r : Rn} {cs : List Nat} {c : Nat} (hi : Inv E val S0 Cl X r cs) (hu : (r.tk c).st ≠ 3) (hb : waitB r c = false)
    {t : Rn × Int × Bool} (ht : Turned r c t) : msr t.1 < msr r := by
  have hlt := (hi.uns c hu).lt
  rcases ht.out with ⟨_, _, h⟩ | ⟨_, o, _, h⟩
  · exact frm_settled ht.frm hlt hu h
  · exact frm_waits ht.frm hlt hb hu h
theorem turn_settled {E : Env} {r : Rn} {c : Nat} (h : (r.tk c).st = 3) : turnP E r c = (r, (r.tk c).wt, true) := by
  unfold turnP
  rw [if_neg (by omega), if_neg (by omega), if_neg (by omega)]
  simp [h]
end Go.Proofs.YtiocnfambeochaaGreatDoor

/- Plain mathematics: Chain, Restart, Suspend: each comes to an end; then all cells are settled. -/
set_option linter.unusedVariables false
set_option linter.unusedSimpArgs false
namespace Go.Proofs.YtiocnfambeochaaGreatDoor

def moveP (p c : Nat) (l : List Nat) : List Nat := l.take p ++ c :: (l.drop p).erase c
structure CS where
  at' : Nat
  ch : List Nat
  r : Rn
def chainF (E : Env) (s : CS) : CS :=
  let c := s.ch.getD s.at' 0
  let t := turnP E s.r c
  if t.2.2 = true then ⟨s.at' + 1, s.ch, t.1⟩ else ⟨s.at', moveP s.at' t.2.1.toNat s.ch, leaveP t.1 c⟩
def chainE (s : CS) : Bool := decide (48 ≤ s.at')
structure QS where
  q : List Nat
  r : Rn
def stillB (r : Rn) (c : Nat) : Bool := decide ((r.tk c).wt ≠ -1) && decide ((r.tk (r.tk c).wt.toNat).st ≠ 3)
def queueF (E : Env) (s : QS) : QS :=
  match s.q with
  | [] => s
  | c :: t =>
    if stillB s.r c = true then ⟨t ++ [c], s.r⟩
    else
      let u := turnP E s.r c
      if u.2.2 = true then ⟨t, u.1⟩ else ⟨t ++ [c], leaveP u.1 c⟩
def stackF (E : Env) (s : QS) : QS :=
  match s.q with
  | [] => s
  | c :: t =>
    let u := turnP E s.r c
    if u.2.2 = true then ⟨t, u.1⟩ else ⟨u.2.1.toNat :: c :: t, u.1⟩
def queueE (s : QS) : Bool := s.q.isEmpty
def Sus (E : Env) : Nat → Nat → Rn → Rn → Prop
  | 0, _, r, r' => r' = r
  | k + 1, c, r, r' => ∃ r1, Ends (stackF E) queueE ⟨[c], r⟩ ⟨[], r1⟩ ∧ Sus E k (c + 1) r1 r'
structure ChOK (ch : List Nat) : Prop where
  len : ch.length = 48
  all : ∀ c, c < 48 → c ∈ ch
  only : ∀ c ∈ ch, c < 48
structure Frd (r r' : Rn) : Prop where
  fs : r'.fs = r.fs
  last : r'.last = r.last
  way : r'.way = r.way
  done : ∀ x, (r.tk x).st = 3 → (r'.tk x).st = 3
theorem Frd.refl (r : Rn) : Frd r r := ⟨rfl, rfl, rfl, fun _ h => h⟩
theorem Frd.trans {r r' r'' : Rn} (h : Frd r r') (g : Frd r' r'') : Frd r r'' := ⟨g.fs.trans h.fs, g.last.trans h.last, g.way.trans h.way, fun x hx => g.done x (h.done x hx)⟩
theorem Turned.frd {r : Rn} {c : Nat} {t : Rn × Int × Bool} (h : Turned r c t) (hs : (r.tk c).st = 3 → (t.1.tk c).st = 3) : Frd r t.1 :=
  ⟨h.frm.fs, h.frm.last, h.frm.way, fun x hx => by
    by_cases e : x = c
    · rw [e] at hx ⊢; exact hs hx
    · rw [h.frm.tk x e]; exact hx⟩
theorem frd_leave (r : Rn) {c : Nat} (h3 : (r.tk c).st ≠ 3) : Frd r (leaveP r c) :=
  ⟨rfl, rfl, rfl, fun x hx => by
    by_cases e : x = c
    · rw [e] at hx; exact absurd hx h3
    · unfold leaveP; rw [put_ne _ _ _ e]; exact hx⟩

section
variable {E : Env} {val : Nat → V} {S0 : Con} {Cl : Nat → Prop} {X : Nat → Ans → Prop}
theorem stack_step (hW : RightW E) (hX : XK E val S0 Cl X) {r : Rn} {cs : List Nat} {c : Nat} {t : List Nat} (hi : Inv E val S0 Cl X r cs) (hs : SI r (c :: t)) :
    (stackF E ⟨c :: t, r⟩ = ⟨t, (turnP E r c).1⟩ ∧ (turnP E r c).2.2 = true ∧ SI (turnP E r c).1 t ∧ ((turnP E r c).1.tk c).st = 3 ∨
      ∃ o, stackF E ⟨c :: t, r⟩ = ⟨o :: c :: t, (turnP E r c).1⟩ ∧ (turnP E r c).2.2 = false ∧ (turnP E r c).2.1 = (o : Nat) ∧ SI (turnP E r c).1 (o :: c :: t) ∧ Waits (turnP E r c).1 c o ∧ (r.tk c).st ≠ 3) ∧
    (∃ cs', Inv E val S0 Cl X (turnP E r c).1 cs') ∧ Frd r (turnP E r c).1 ∧ (((r.tk c).st ≠ 3 → msr (turnP E r c).1 < msr r) ∧ ((r.tk c).st = 3 → (turnP E r c).1 = r)) := by
  obtain ⟨⟨cs', g1⟩, g2⟩ := turn_ok (c := c) hW hX hi
  have hset : (r.tk c).st = 3 → (turnP E r c).1 = r := fun h => by rw [turn_settled h]
  refine ⟨?_, ⟨cs', g1⟩, g2.frd (fun h => by rw [hset h]; exact h), fun hu => turn_less hi hu hs.first g2, hset⟩
  rcases g2.out with ⟨h1, h2, h3⟩ | ⟨h1, o, h2, hw⟩
  · left; exact ⟨by simp [stackF, h1], h1, hs.pop g2.frm h3, h3⟩
  · right
    have hu : (r.tk c).st ≠ 3 := by
      intro e; rw [turn_settled e] at h1; cases h1
    exact ⟨o, by simp [stackF, h1, h2], h1, h2, hs.fail g1 g2.frm hu hw, hw, hu⟩

def SJ (E : Env) (val : Nat → V) (S0 : Con) (Cl : Nat → Prop) (X : Nat → Ans → Prop) (r : Rn) (c0 : Nat) (s : QS) : Prop :=
  (∃ cs, Inv E val S0 Cl X s.r cs) ∧ SI s.r s.q ∧ Frd r s.r ∧ ((s.r.tk c0).st = 3 ∨ c0 ∈ s.q)
def sPot (s : QS) : Nat := 2 * msr s.r + s.q.length
theorem stackJ_step (hW : RightW E) (hX : XK E val S0 Cl X) {r : Rn} {c0 : Nat} {s : QS} (hJ : SJ E val S0 Cl X r c0 s) (hf : queueE s = false) :
    (SJ E val S0 Cl X r c0 (stackF E s) ∧ sPot (stackF E s) < sPot s) ∧ ∃ c t, s.q = c :: t ∧ c < 48 ∧
      (((turnP E s.r c).2.2 = true ∧ stackF E s = ⟨t, (turnP E s.r c).1⟩) ∨ ((turnP E s.r c).2.2 = false ∧ ∃ o : Nat, (turnP E s.r c).2.1 = o ∧ o < 48 ∧ stackF E s = ⟨o :: c :: t, (turnP E s.r c).1⟩)) := by
  obtain ⟨q, u⟩ := s
  obtain ⟨⟨cs1, j1⟩, j2, j3, j4⟩ := hJ
  dsimp only at j1 j2 j3 j4 ⊢
  cases q with
  | nil => cases hf
  | cons b t =>
    obtain ⟨k1, k2, k3, k4, k5⟩ := stack_step hW hX j1 j2
    rcases k1 with ⟨e, kt, ks, k3'⟩ | ⟨o, e, kt, ko, ks, kw, ku⟩
    · refine ⟨?_, b, t, rfl, j2.lt b List.mem_cons_self, .inl ⟨kt, e⟩⟩
      rw [e]
      refine ⟨⟨k2, ks, j3.trans k3, ?_⟩, ?_⟩
      · rcases j4 with j4 | j4
        · exact .inl (k3.done c0 j4)
        · rcases List.mem_cons.1 j4 with rfl | j4
          · exact .inl k3'
          · exact .inr j4
      · show 2 * msr (turnP E u b).1 + t.length < 2 * msr u + (b :: t).length
        by_cases hu : (u.tk b).st = 3
        · rw [k5 hu]; simp
        · have := k4 hu; simp only [List.length_cons]; omega
    · refine ⟨?_, b, t, rfl, j2.lt b List.mem_cons_self, .inr ⟨kt, o, ko, kw.lt, e⟩⟩
      rw [e]
      refine ⟨⟨k2, ks, j3.trans k3, ?_⟩, ?_⟩
      · rcases j4 with j4 | j4
        · exact .inl (k3.done c0 j4)
        · exact .inr (List.mem_cons_of_mem _ j4)
      · show 2 * msr (turnP E u b).1 + (o :: b :: t).length < 2 * msr u + (b :: t).length
        have := k4 ku; simp only [List.length_cons]; omega
theorem stack_start {r : Rn} {cs : List Nat} {c : Nat} (hlt : c < 48) (hi : Inv E val S0 Cl X r cs) (hn : ∀ x, waitB r x = false) : SJ E val S0 Cl X r c ⟨[c], r⟩ :=
  ⟨⟨cs, hi⟩, { stk := trivial, nd := by simp, lt := by intro x hx; rw [List.mem_singleton] at hx; rw [hx]; exact hlt, only := fun x hx => by rw [hn x] at hx; cases hx }, Frd.refl r, .inr (by simp)⟩
theorem SJ.fin {r : Rn} {c0 : Nat} {r' : Rn} (h : SJ E val S0 Cl X r c0 ⟨[], r'⟩) : (∃ cs', Inv E val S0 Cl X r' cs') ∧ Frd r r' ∧ (r'.tk c0).st = 3 ∧ ∀ x, waitB r' x = false := by
  obtain ⟨i1, i2, i3, i4⟩ := h
  refine ⟨i1, i3, ?_, fun x => ?_⟩
  · rcases i4 with i4 | i4
    · exact i4
    · cases i4
  · cases hb : waitB r' x with
    | false => rfl
    | true => have := i2.only x hb; cases this
theorem stack_all (hW : RightW E) (hX : XK E val S0 Cl X) {r : Rn} {cs : List Nat} {c : Nat} (hlt : c < 48) (hi : Inv E val S0 Cl X r cs) (hn : ∀ x, waitB r x = false) :
    ∃ r', Ends (stackF E) queueE ⟨[c], r⟩ ⟨[], r'⟩ ∧ (∃ cs', Inv E val S0 Cl X r' cs') ∧ Frd r r' ∧ (r'.tk c).st = 3 ∧ ∀ x, waitB r' x = false := by
  have h0 : SI r [c] := { stk := trivial, nd := by simp, lt := by intro x hx; rw [List.mem_singleton] at hx; rw [hx]; exact hlt, only := fun x hx => by rw [hn x] at hx; cases hx }
  obtain ⟨s', e1, ⟨cs', i1⟩, i2, i3, i4⟩ := ends_of (f := stackF E) (fin := queueE) (fun s => (∃ cs, Inv E val S0 Cl X s.r cs) ∧ SI s.r s.q ∧ Frd r s.r ∧ ((s.r.tk c).st = 3 ∨ c ∈ s.q)) (fun s => 100 * msr s.r + s.q.length) (by
    rintro ⟨q, u⟩ ⟨⟨cs1, j1⟩, j2, j3, j4⟩ hf
    dsimp only at j1 j2 j3 j4 ⊢
    cases q with
    | nil => cases hf
    | cons b t =>
      obtain ⟨k1, k2, k3, k4, k5⟩ := stack_step hW hX j1 j2
      rcases k1 with ⟨e, kt, ks, k3'⟩ | ⟨o, e, kt, ko, ks, kw, ku⟩
      · rw [e]
        refine ⟨⟨k2, ks, j3.trans k3, ?_⟩, ?_⟩
        · rcases j4 with j4 | j4
          · exact .inl (k3.done c j4)
          · rcases List.mem_cons.1 j4 with rfl | j4
            · exact .inl k3'
            · exact .inr j4
        · by_cases hu : (u.tk b).st = 3
          · rw [k5 hu]; simp
          · have := k4 hu; simp only [List.length_cons]; omega
      · rw [e]
        refine ⟨⟨k2, ks, j3.trans k3, ?_⟩, ?_⟩
        · rcases j4 with j4 | j4
          · exact .inl (k3.done c j4)
          · exact .inr (List.mem_cons_of_mem _ j4)
        · have := k4 ku; simp only [List.length_cons]; omega) _ ⟨[c], r⟩ (Nat.le_refl _) ⟨⟨cs, hi⟩, h0, Frd.refl r, .inr (by simp)⟩
  obtain ⟨q', r'⟩ := s'
  have hq : q' = [] := by
    obtain ⟨n, _, hf, _⟩ := e1
    simpa [queueE] using hf
  subst hq
  refine ⟨r', e1, ⟨cs', i1⟩, i3, ?_, fun x => ?_⟩
  · rcases i4 with i4 | i4
    · exact i4
    · cases i4
  · cases hb : waitB r' x with
    | false => rfl
    | true => have := i2.only x hb; cases this

theorem sus_all (hW : RightW E) (hX : XK E val S0 Cl X) : ∀ (k c : Nat) (r : Rn) (cs : List Nat), c + k ≤ 48 → Inv E val S0 Cl X r cs → (∀ x, waitB r x = false) →
    ∃ r', Sus E k c r r' ∧ (∃ cs', Inv E val S0 Cl X r' cs') ∧ Frd r r' ∧ ∀ x, c ≤ x → x < c + k → (r'.tk x).st = 3
  | 0, c, r, cs, _, hi, _ => ⟨r, rfl, ⟨cs, hi⟩, Frd.refl r, fun x h1 h2 => absurd h2 (by omega)⟩
  | k + 1, c, r, cs, hk, hi, hn => by
    obtain ⟨r1, e1, ⟨cs1, i1⟩, i2, i3, i4⟩ := stack_all hW hX (c := c) (by omega) hi hn
    obtain ⟨r', j1, j2, j3, j4⟩ := sus_all hW hX k (c + 1) r1 cs1 (by omega) i1 i4
    refine ⟨r', ⟨r1, e1, j1⟩, j2, i2.trans j3, fun x h1 h2 => ?_⟩
    by_cases e : x = c
    · rw [e]; exact j3.done c i3
    · exact j4 x (by omega) (by omega)

def ChJ (E : Env) (val : Nat → V) (S0 : Con) (Cl : Nat → Prop) (X : Nat → Ans → Prop) (r : Rn) (s : CS) : Prop :=
  (∃ cs, Inv E val S0 Cl X s.r cs) ∧ ChOK s.ch ∧ Frd r s.r ∧ (s.at' ≤ 48 ∧ (∀ x ∈ s.ch.take s.at', (s.r.tk x).st = 3)) ∧ ∃ stk rest, s.ch.drop s.at' = stk ++ rest ∧ SI s.r stk
def chPot (s : CS) : Nat := msr s.r + (48 - s.at')
theorem chain_step (hW : RightW E) (hX : XK E val S0 Cl X) {r : Rn} {s : CS} (hJ : ChJ E val S0 Cl X r s) (hf : chainE s = false) :
    (ChJ E val S0 Cl X r (chainF E s) ∧ chPot (chainF E s) < chPot s) ∧ ∃ c, c < 48 ∧ s.ch[s.at']? = some c ∧
      (((turnP E s.r c).2.2 = true ∧ chainF E s = ⟨s.at' + 1, s.ch, (turnP E s.r c).1⟩) ∨
        ((turnP E s.r c).2.2 = false ∧ ∃ o : Nat, (turnP E s.r c).2.1 = o ∧ o < 48 ∧ o ≠ c ∧ o ∈ s.ch.drop s.at' ∧ chainF E s = ⟨s.at', moveP s.at' o s.ch, leaveP (turnP E s.r c).1 c⟩)) := by
  obtain ⟨at', l, u⟩ := s
  obtain ⟨⟨cs1, j1⟩, j2, j3, ⟨j4, j5⟩, stk, rest, j6, j7⟩ := hJ
  have hat : at' < 48 := by simpa [chainE] using hf
  have hlen := j2.len
  dsimp only at j1 j2 j3 j4 j5 j6 j7 hlen ⊢
  obtain ⟨c, t, rest, j6, j7⟩ : ∃ c t rest, l.drop at' = (c :: t) ++ rest ∧ SI u (c :: t) := by
    cases stk with
    | cons c t => exact ⟨c, t, rest, j6, j7⟩
    | nil =>
      cases rest with
      | nil =>
        exfalso
        have := congrArg List.length j6
        rw [List.length_drop] at this
        simp at this
        omega
      | cons c rest =>
        refine ⟨c, [], rest, j6, { stk := trivial, nd := by simp, lt := ?_, only := fun x hx => (by have := j7.only x hx; cases this) }⟩
        intro x hx
        rw [List.mem_singleton] at hx
        subst hx
        exact j2.only x (List.mem_of_mem_drop (i := at') (by rw [j6]; simp))
  have hget : l[at']? = some c := by
    have := congrArg (fun m => m[0]?) j6
    simpa using this
  have hgd : l.getD at' 0 = c := by rw [List.getD_eq_getElem?_getD, hget]; rfl
  obtain ⟨k1, k2, k3, k4, k5⟩ := stack_step hW hX j1 j7
  rcases k1 with ⟨_, kt, ks, k3'⟩ | ⟨o, _, kt, ko, ks, kw, ku⟩
  · have e : chainF E ⟨at', l, u⟩ = ⟨at' + 1, l, (turnP E u c).1⟩ := by
      simp only [chainF, hgd, kt, if_true]
    refine ⟨?_, c, j2.only c (List.mem_of_getElem? hget), hget, .inl ⟨kt, e⟩⟩
    rw [e]
    refine ⟨⟨k2, j2, j3.trans k3, ⟨by show at' + 1 ≤ 48; omega, ?_⟩, t, rest, ?_, ks⟩, ?_⟩
    · intro x hx
      have hx : x ∈ l.take (at' + 1) := hx
      rw [take_next hget, List.mem_append, List.mem_singleton] at hx
      rcases hx with hx | rfl
      · exact k3.done x (j5 x hx)
      · exact k3'
    · show l.drop (at' + 1) = t ++ rest
      exact (drop_head j6).2
    · show msr (turnP E u c).1 + (48 - (at' + 1)) < msr u + (48 - at')
      by_cases hu : (u.tk c).st = 3
      · rw [k5 hu]; omega
      · have := k4 hu; omega
  · have e : chainF E ⟨at', l, u⟩ = ⟨at', moveP at' o l, leaveP (turnP E u c).1 c⟩ := by
      simp only [chainF, hgd, kt, ko]
      simp
    have hnd := ks.nd
    have ho1 : o ∉ c :: t := (List.nodup_cons.1 hnd).1
    have ho2 : o ∈ l.drop at' := by
      have hm : o ∈ l := j2.all o kw.lt
      rw [← List.take_append_drop at' l, List.mem_append] at hm
      rcases hm with hm | hm
      · exact absurd (k3.done o (j5 o hm)) kw.open'
      · exact hm
    refine ⟨?_, c, j2.only c (List.mem_of_getElem? hget), hget, .inr ⟨kt, o, ko, kw.lt, (fun e => ho1 (e ▸ List.mem_cons_self)), ho2, e⟩⟩
    rw [e]
    have ho3 : o ∈ rest := by
      rw [j6, List.mem_append] at ho2
      rcases ho2 with h | h
      · exact absurd h ho1
      · exact h
    have hdr : (moveP at' o l).drop at' = (o :: c :: t) ++ rest.erase o := by
      unfold moveP
      rw [List.drop_append_of_le_length (by rw [List.length_take]; omega), List.drop_eq_nil_of_le (by rw [List.length_take]; omega), j6, List.erase_append_right _ ho1]
      rfl
    have htk : (moveP at' o l).take at' = l.take at' := by
      unfold moveP
      rw [List.take_append_of_le_length (by rw [List.length_take]; omega), List.take_of_length_le (by rw [List.length_take]; omega)]
    refine ⟨⟨?_, ?_, ?_, ⟨j4, ?_⟩, o :: c :: t, rest.erase o, hdr, ks.leave kw.mine⟩, ?_⟩
    · obtain ⟨cs2, k2⟩ := k2; exact ⟨cs2, leave_ok k2 kw.mine⟩
    · refine { len := ?_, all := ?_, only := ?_ }
      · show (moveP at' o l).length = 48
        unfold moveP
        rw [List.length_append, List.length_cons, List.length_erase_of_mem ho2, List.length_take, List.length_drop]
        have : 0 < (l.drop at').length := List.length_pos_of_mem ho2
        rw [List.length_drop] at this
        omega
      · intro x hx
        show x ∈ moveP at' o l
        unfold moveP
        have hm : x ∈ l := j2.all x hx
        rw [← List.take_append_drop at' l, List.mem_append] at hm
        rw [List.mem_append]
        rcases hm with hm | hm
        · exact .inl hm
        · right
          by_cases e : x = o
          · rw [e]; exact List.mem_cons_self
          · exact List.mem_cons_of_mem _ ((List.mem_erase_of_ne e).2 hm)
      · intro x hx
        have hx : x ∈ moveP at' o l := hx
        unfold moveP at hx
        rw [List.mem_append] at hx
        rcases hx with hx | hx
        · exact j2.only x (List.mem_of_mem_take hx)
        · rcases List.mem_cons.1 hx with rfl | hx
          · exact kw.lt
          · exact j2.only x (List.mem_of_mem_drop (List.mem_of_mem_erase hx))
    · exact (j3.trans k3).trans (frd_leave _ kw.mine)
    · intro x hx
      have hx : x ∈ (moveP at' o l).take at' := hx
      rw [htk] at hx
      exact (frd_leave _ kw.mine).done x (k3.done x (j5 x hx))
    · show msr (leaveP (turnP E u c).1 c) + (48 - at') < msr u + (48 - at')
      rw [msr_leave kw.mine]
      have := k4 ku
      omega
theorem chain_start {r : Rn} {cs : List Nat} {ch : List Nat} (hc : ChOK ch) (hi : Inv E val S0 Cl X r cs) (hn : ∀ x, waitB r x = false) : ChJ E val S0 Cl X r ⟨0, ch, r⟩ :=
  ⟨⟨cs, hi⟩, hc, Frd.refl r, ⟨by show 0 ≤ 48; omega, by intro x hx; simp at hx⟩, [], ch, rfl, { stk := trivial, nd := by simp, lt := by simp, only := fun x hx => by rw [hn x] at hx; cases hx }⟩
theorem chain_all (hW : RightW E) (hX : XK E val S0 Cl X) {r : Rn} {cs : List Nat} {ch : List Nat} (hc : ChOK ch) (hi : Inv E val S0 Cl X r cs) (hn : ∀ x, waitB r x = false) :
    ∃ ch' r', Ends (chainF E) chainE ⟨0, ch, r⟩ ⟨48, ch', r'⟩ ∧ (∃ cs', Inv E val S0 Cl X r' cs') ∧ Frd r r' ∧ ChOK ch' ∧ ∀ x, x < 48 → (r'.tk x).st = 3 := by
  have h0 : ChJ E val S0 Cl X r ⟨0, ch, r⟩ := chain_start hc hi hn
  obtain ⟨s', e1, ⟨cs', i1⟩, i2, i3, i4, i5⟩ := ends_of (f := chainF E) (fin := chainE) (ChJ E val S0 Cl X r) chPot (fun s hJ hf => (chain_step hW hX hJ hf).1) _ ⟨0, ch, r⟩ (Nat.le_refl _) h0
  obtain ⟨at', ch', r'⟩ := s'
  dsimp only at i1 i2 i3 i4 i5
  have hat : at' = 48 := by
    obtain ⟨n, _, hf, _⟩ := e1
    have : 48 ≤ at' := by simpa [chainE] using hf
    omega
  subst hat
  refine ⟨ch', r', e1, ⟨cs', i1⟩, i3, i2, fun x hx => i4.2 x ?_⟩
  rw [List.take_of_length_le (by rw [i2.len]; omega)]
  exact i2.all x hx

def QJ (E : Env) (val : Nat → V) (S0 : Con) (Cl : Nat → Prop) (X : Nat → Ans → Prop) (r : Rn) (s : QS) : Prop :=
  (∃ cs, Inv E val S0 Cl X s.r cs) ∧ Frd r s.r ∧ (∀ x, x < 48 → (s.r.tk x).st ≠ 3 → x ∈ s.q) ∧ s.q.length ≤ 48 ∧ ∀ x ∈ s.q, x < 48
def qM (s : QS) : Nat := 10000 * msr s.r + 100 * s.q.length + s.q.findIdx (fun c => !stillB s.r c)
def qPot (s : QS) : Nat := msr s.r + s.q.length
theorem queue_step (hW : RightW E) (hX : XK E val S0 Cl X) {r : Rn} {s : QS} (hJ : QJ E val S0 Cl X r s) (hf : queueE s = false) :
    (QJ E val S0 Cl X r (queueF E s) ∧ qM (queueF E s) < qM s) ∧ ∃ c t, s.q = c :: t ∧ c < 48 ∧
      ((stillB s.r c = true ∧ queueF E s = ⟨t ++ [c], s.r⟩) ∨
        (stillB s.r c = false ∧ (((turnP E s.r c).2.2 = true ∧ queueF E s = ⟨t, (turnP E s.r c).1⟩) ∨ ((turnP E s.r c).2.2 = false ∧ queueF E s = ⟨t ++ [c], leaveP (turnP E s.r c).1 c⟩)) ∧ qPot (queueF E s) < qPot s)) := by
  obtain ⟨q, u⟩ := s
  obtain ⟨⟨cs1, j1⟩, j2, j3, j4, j5⟩ := hJ
  dsimp only at j1 j2 j3 j4 j5 ⊢
  cases q with
  | nil => cases hf
  | cons c t =>
    have hlen : ∀ (m : List Nat) (v : Rn), m.findIdx (fun c => !stillB v c) ≤ m.length := fun m v => List.findIdx_le_length
    by_cases hst : stillB u c = true
    · have e : queueF E ⟨c :: t, u⟩ = ⟨t ++ [c], u⟩ := by simp only [queueF, hst, if_true]
      refine ⟨?_, c, t, rfl, j5 c List.mem_cons_self, .inl ⟨hst, e⟩⟩
      rw [e]
      have hex : ∃ x ∈ c :: t, stillB u x = false := by
        refine Classical.byContradiction fun hno => ?_
        have hall : ∀ x ∈ c :: t, stillB u x = true := fun x hx => by
          cases hb : stillB u x with
          | true => rfl
          | false => exact absurd ⟨x, hx, hb⟩ hno
        have hgo : ∀ n, ∀ x ∈ c :: t, ∃ y ∈ c :: t, along u.wts n x = (y : Int) := by
          intro n
          induction n with
          | zero => intro x hx; exact ⟨x, hx, rfl⟩
          | succ n ih =>
            intro x hx
            have hb := hall x hx
            unfold stillB at hb
            simp only [Bool.and_eq_true, decide_eq_true_eq] at hb
            obtain ⟨w1, w2⟩ := j1.wt x
            have h0 : 0 ≤ (u.tk x).wt := by omega
            obtain ⟨y, hy, he⟩ := ih (u.tk x).wt.toNat (j3 _ (w2 h0).2 hb.2)
            refine ⟨y, hy, ?_⟩
            show along u.wts n (if 0 ≤ (x : Int) then u.wts (x : Int).toNat else -1) = y
            rw [if_pos (by omega), Int.toNat_natCast]
            show along u.wts n (u.tk x).wt = y
            rw [← Int.toNat_of_nonneg h0]; exact he
        obtain ⟨n, hn⟩ := j1.ends c
        obtain ⟨y, _, hy⟩ := hgo n c List.mem_cons_self
        rw [hn] at hy; omega
      obtain ⟨x, hx, hxb⟩ := hex
      have hxt : x ∈ t := by
        rcases List.mem_cons.1 hx with rfl | hx
        · rw [hxb] at hst; cases hst
        · exact hx
      have hft : t.findIdx (fun c => !stillB u c) < t.length := List.findIdx_lt_length_of_exists ⟨x, hxt, by simp [hxb]⟩
      refine ⟨⟨⟨cs1, j1⟩, j2, ?_, ?_, fun y hy => j5 y (by rcases List.mem_append.1 hy with h | h; exact List.mem_cons_of_mem _ h; rw [List.mem_singleton] at h; rw [h]; exact List.mem_cons_self)⟩, ?_⟩
      · intro y hy hy3
        rcases List.mem_cons.1 (j3 y hy hy3) with rfl | h
        · simp
        · exact List.mem_append_left _ h
      · simp at j4 ⊢; omega
      · show 10000 * msr u + 100 * (t ++ [c]).length + (t ++ [c]).findIdx (fun c => !stillB u c) < 10000 * msr u + 100 * (c :: t).length + (c :: t).findIdx (fun c => !stillB u c)
        rw [List.findIdx_append, if_pos hft, List.findIdx_cons]
        simp [hst]
    · have hst' : stillB u c = false := by simpa using hst
      obtain ⟨⟨cs2, g1⟩, g2⟩ := turn_ok (c := c) hW hX j1
      have hset : (u.tk c).st = 3 → (turnP E u c).1 = u := fun h => by rw [turn_settled h]
      have hfr : Frd u (turnP E u c).1 := g2.frd (fun h => by rw [hset h]; exact h)
      have hwb : waitB u c = false := by
        unfold stillB at hst'
        unfold waitB
        obtain ⟨w1, w2⟩ := j1.wt c
        by_cases h0 : 0 ≤ (u.tk c).wt
        · have hne : (u.tk c).wt ≠ -1 := by omega
          simp [hne] at hst'
          simp [hst']
        · simp [h0]
      rcases g2.out with ⟨h1, h2, h3⟩ | ⟨h1, o, h2, hw⟩
      · have e : queueF E ⟨c :: t, u⟩ = ⟨t, (turnP E u c).1⟩ := by simp only [queueF, hst', h1, if_true]; simp
        refine ⟨?_, c, t, rfl, j5 c List.mem_cons_self, .inr ⟨hst', .inl ⟨h1, e⟩, ?_⟩⟩
        rotate_left
        · rw [e]
          show msr (turnP E u c).1 + t.length < msr u + (c :: t).length
          rw [List.length_cons]
          by_cases hu : (u.tk c).st = 3
          · rw [hset hu]; omega
          · have := turn_less j1 hu hwb g2; omega
        rw [e]
        refine ⟨⟨⟨cs2, g1⟩, j2.trans hfr, ?_, (by simp at j4; show t.length ≤ 48; omega), fun y hy => j5 y (List.mem_cons_of_mem _ hy)⟩, ?_⟩
        · intro y hy hy3
          have hyc : y ≠ c := fun e => hy3 (e ▸ h3)
          have : (u.tk y).st ≠ 3 := by rw [← g2.frm.tk y hyc]; exact hy3
          rcases List.mem_cons.1 (j3 y hy this) with rfl | h
          · exact absurd rfl hyc
          · exact h
        · show 10000 * msr (turnP E u c).1 + 100 * t.length + t.findIdx _ < 10000 * msr u + 100 * (c :: t).length + _
          have hl := hlen t (turnP E u c).1
          simp only [List.length_cons] at j4 ⊢
          by_cases hu : (u.tk c).st = 3
          · rw [hset hu] at hl ⊢; omega
          · have := turn_less j1 hu hwb g2; omega
      · have hu : (u.tk c).st ≠ 3 := by
          intro e; rw [turn_settled e] at h1; cases h1
        have e : queueF E ⟨c :: t, u⟩ = ⟨t ++ [c], leaveP (turnP E u c).1 c⟩ := by simp only [queueF, hst', h1]; simp
        refine ⟨?_, c, t, rfl, j5 c List.mem_cons_self, .inr ⟨hst', .inr ⟨h1, e⟩, ?_⟩⟩
        rotate_left
        · rw [e]
          show msr (leaveP (turnP E u c).1 c) + (t ++ [c]).length < msr u + (c :: t).length
          rw [msr_leave hw.mine]
          have := turn_less j1 hu hwb g2
          simp only [List.length_cons, List.length_append, List.length_nil]
          omega
        rw [e]
        refine ⟨⟨⟨cs2, leave_ok g1 hw.mine⟩, (j2.trans hfr).trans (frd_leave _ hw.mine), ?_, (by simp at j4 ⊢; omega), fun y hy => j5 y (by rcases List.mem_append.1 hy with h | h; exact List.mem_cons_of_mem _ h; rw [List.mem_singleton] at h; rw [h]; exact List.mem_cons_self)⟩, ?_⟩
        · intro y hy hy3
          have hy4 : (u.tk y).st ≠ 3 := fun h => hy3 ((frd_leave _ hw.mine).done y (hfr.done y h))
          rcases List.mem_cons.1 (j3 y hy hy4) with rfl | h
          · simp
          · exact List.mem_append_left _ h
        · show 10000 * msr (leaveP (turnP E u c).1 c) + 100 * (t ++ [c]).length + (t ++ [c]).findIdx _ < 10000 * msr u + 100 * (c :: t).length + _
          have hl := hlen (t ++ [c]) (leaveP (turnP E u c).1 c)
          rw [msr_leave hw.mine]
          have := turn_less j1 hu hwb g2
          simp only [List.length_cons, List.length_append, List.length_nil] at j4 hl ⊢
          omega
theorem queue_start {r : Rn} {cs : List Nat} (hi : Inv E val S0 Cl X r cs) : QJ E val S0 Cl X r ⟨List.range 48, r⟩ :=
  ⟨⟨cs, hi⟩, Frd.refl r, fun x hx _ => List.mem_range.2 hx, (by simp), fun x hx => List.mem_range.1 hx⟩
theorem queue_all (hW : RightW E) (hX : XK E val S0 Cl X) {r : Rn} {cs : List Nat} (hi : Inv E val S0 Cl X r cs) :
    ∃ r', Ends (queueF E) queueE ⟨List.range 48, r⟩ ⟨[], r'⟩ ∧ (∃ cs', Inv E val S0 Cl X r' cs') ∧ Frd r r' ∧ ∀ x, x < 48 → (r'.tk x).st = 3 := by
  obtain ⟨s', e1, ⟨cs', i1⟩, i2, i3, i4⟩ := ends_of (f := queueF E) (fin := queueE) (QJ E val S0 Cl X r) qM (fun s hJ hf => (queue_step hW hX hJ hf).1) _ ⟨List.range 48, r⟩ (Nat.le_refl _) (queue_start hi)
  obtain ⟨q', r'⟩ := s'
  have hq : q' = [] := by
    obtain ⟨n, _, hf, _⟩ := e1
    simpa [queueE] using hf
  subst hq
  refine ⟨r', e1, ⟨cs', i1⟩, i2, fun x hx => ?_⟩
  refine Classical.byContradiction fun h => ?_
  have := i3 x hx h
  cases this
end
end Go.Proofs.YtiocnfambeochaaGreatDoor
