/- Texts put together. -/
import Derived.Test.YtlpmmmmniojflaaGreatDoorQ06
/- Plain mathematics: Chain, Restart, Suspend: each comes to an end; then all cells are settled. -/
set_option linter.unusedVariables false
set_option linter.unusedSimpArgs false
namespace Go.Proofs.YtlpmmmmniojflaaGreatDoor
def moveP (p c : Nat) (l : List Nat) : List Nat := l.take p ++ c :: (l.drop p).erase c
structure CS where
  at' : Nat
  ch : List Nat
  r : Rn
def chainF (E : Env) (s : CS) : CS :=
  let c := s.ch.getD s.at' 0
  let t := turnP E s.r c
  if t.2.2 = true then ⟨s.at' + 1, s.ch, t.1⟩ else ⟨s.at', moveP s.at' t.2.1.toNat s.ch, leaveP t.1 c⟩
def chainE (s : CS) : Bool := decide (48 ≤ s.at')
structure QS where
  q : List Nat
  r : Rn
def stillB (r : Rn) (c : Nat) : Bool := decide ((r.tk c).wt ≠ -1) && decide ((r.tk (r.tk c).wt.toNat).st ≠ 3)
def queueF (E : Env) (s : QS) : QS :=
  match s.q with
  | [] => s
  | c :: t =>
    if stillB s.r c = true then ⟨t ++ [c], s.r⟩
    else
      let u := turnP E s.r c
      if u.2.2 = true then ⟨t, u.1⟩ else ⟨t ++ [c], leaveP u.1 c⟩
def stackF (E : Env) (s : QS) : QS :=
  match s.q with
  | [] => s
  | c :: t =>
    let u := turnP E s.r c
    if u.2.2 = true then ⟨t, u.1⟩ else ⟨u.2.1.toNat :: c :: t, u.1⟩
def queueE (s : QS) : Bool := s.q.isEmpty
def Sus (E : Env) : Nat → Nat → Rn → Rn → Prop
  | 0, _, r, r' => r' = r
  | k + 1, c, r, r' => ∃ r1, Ends (stackF E) queueE ⟨[c], r⟩ ⟨[], r1⟩ ∧ Sus E k (c + 1) r1 r'
structure ChOK (ch : List Nat) : Prop where
  len : ch.length = 48
  all : ∀ c, c < 48 → c ∈ ch
  only : ∀ c ∈ ch, c < 48
structure Frd (r r' : Rn) : Prop where
  fs : r'.fs = r.fs
  last : r'.last = r.last
  way : r'.way = r.way
  done : ∀ x, (r.tk x).st = 3 → (r'.tk x).st = 3
theorem Frd.refl (r : Rn) : Frd r r := ⟨rfl, rfl, rfl, fun _ h => h⟩
theorem Frd.trans {r r' r'' : Rn} (h : Frd r r') (g : Frd r' r'') : Frd r r'' := ⟨g.fs.trans h.fs, g.last.trans h.last, g.way.trans h.way, fun x hx => g.done x (h.done x hx)⟩
theorem Turned.frd {r : Rn} {c : Nat} {t : Rn × Int × Bool} (h : Turned r c t) (hs : (r.tk c).st = 3 → (t.1.tk c).st = 3) : Frd r t.1 :=
  ⟨h.frm.fs, h.frm.last, h.frm.way, fun x hx => by
    by_cases e : x = c
    · rw [e] at hx ⊢; exact hs hx
    · rw [h.frm.tk x e]; exact hx⟩
theorem frd_leave (r : Rn) {c : Nat} (h3 : (r.tk c).st ≠ 3) : Frd r (leaveP r c) :=
  ⟨rfl, rfl, rfl, fun x hx => by
    by_cases e : x = c
    · rw [e] at hx; exact absurd hx h3
    · unfold leaveP; rw [put_ne _ _ _ e]; exact hx⟩
section
variable {E : Env} {val : Nat → V} {S0 : Con} {Cl : Nat → Prop} {X : Nat → Ans → Prop}
theorem stack_step (hW : RightW E) (hX : XK E val S0 Cl X) {r : Rn} {cs : List Nat} {c : Nat} {t : List Nat} (hi : Inv E val S0 Cl X r cs) (hs : SI r (c :: t)) :
    (stackF E ⟨c :: t, r⟩ = ⟨t, (turnP E r c).1⟩ ∧ (turnP E r c).2.2 = true ∧ SI (turnP E r c).1 t ∧ ((turnP E r c).1.tk c).st = 3 ∨
      ∃ o, stackF E ⟨c :: t, r⟩ = ⟨o :: c :: t, (turnP E r c).1⟩ ∧ (turnP E r c).2.2 = false ∧ (turnP E r c).2.1 = (o : Nat) ∧ SI (turnP E r c).1 (o :: c :: t) ∧ Waits (turnP E r c).1 c o ∧ (r.tk c).st ≠ 3) ∧
    (∃ cs', Inv E val S0 Cl X (turnP E r c).1 cs') ∧ Frd r (turnP E r c).1 ∧ (((r.tk c).st ≠ 3 → msr (turnP E r c).1 < msr r) ∧ ((r.tk c).st = 3 → (turnP E r c).1 = r)) := by
  obtain ⟨⟨cs', g1⟩, g2⟩ := turn_ok (c := c) hW hX hi
  have hset : (r.tk c).st = 3 → (turnP E r c).1 = r := fun h => by rw [turn_settled h]
  refine ⟨?_, ⟨cs', g1⟩, g2.frd (fun h => by rw [hset h]; exact h), fun hu => turn_less hi hu hs.first g2, hset⟩
  rcases g2.out with ⟨h1, h2, h3⟩ | ⟨h1, o, h2, hw⟩
  · left; exact ⟨by simp [stackF, h1], h1, hs.pop g2.frm h3, h3⟩
  · right
    have hu : (r.tk c).st ≠ 3 := by
      intro e; rw [turn_settled e] at h1; cases h1
    exact ⟨o, by simp [stackF, h1, h2], h1, h2, hs.fail g1 g2.frm hu hw, hw, hu⟩
def SJ (E : Env) (val : Nat → V) (S0 : Con) (Cl : Nat → Prop) (X : Nat → Ans → Prop) (r : Rn) (c0 : Nat) (s : QS) : Prop :=
  (∃ cs, Inv E val S0 Cl X s.r cs) ∧ SI s.r s.q ∧ Frd r s.r ∧ ((s.r.tk c0).st = 3 ∨ c0 ∈ s.q)
def sPot (s : QS) : Nat := 2 * msr s.r + s.q.length
theorem stackJ_step (hW : RightW E) (hX : XK E val S0 Cl X) {r : Rn} {c0 : Nat} {s : QS} (hJ : SJ E val S0 Cl X r c0 s) (hf : queueE s = false) :
    (SJ E val S0 Cl X r c0 (stackF E s) ∧ sPot (stackF E s) < sPot s) ∧ ∃ c t, s.q = c :: t ∧ c < 48 ∧
      (((turnP E s.r c).2.2 = true ∧ stackF E s = ⟨t, (turnP E s.r c).1⟩) ∨ ((turnP E s.r c).2.2 = false ∧ ∃ o : Nat, (turnP E s.r c).2.1 = o ∧ o < 48 ∧ stackF E s = ⟨o :: c :: t, (turnP E s.r c).1⟩)) := by
  obtain ⟨q, u⟩ := s
  obtain ⟨⟨cs1, j1⟩, j2, j3, j4⟩ := hJ
  dsimp only at j1 j2 j3 j4 ⊢
  cases q with
  | nil => cases hf
  | cons b t =>
    obtain ⟨k1, k2, k3, k4, k5⟩ := stack_step hW hX j1 j2
    rcases k1 with ⟨e, kt, ks, k3'⟩ | ⟨o, e, kt, ko, ks, kw, ku⟩
    · refine ⟨?_, b, t, rfl, j2.lt b List.mem_cons_self, .inl ⟨kt, e⟩⟩
      rw [e]
      refine ⟨⟨k2, ks, j3.trans k3, ?_⟩, ?_⟩
      · rcases j4 with j4 | j4
        · exact .inl (k3.done c0 j4)
        · rcases List.mem_cons.1 j4 with rfl | j4
          · exact .inl k3'
          · exact .inr j4
      · show 2 * msr (turnP E u b).1 + t.length < 2 * msr u + (b :: t).length
        by_cases hu : (u.tk b).st = 3
        · rw [k5 hu]; simp
        · have := k4 hu; simp only [List.length_cons]; omega
    · refine ⟨?_, b, t, rfl, j2.lt b List.mem_cons_self, .inr ⟨kt, o, ko, kw.lt, e⟩⟩
      rw [e]
      refine ⟨⟨k2, ks, j3.trans k3, ?_⟩, ?_⟩
      · rcases j4 with j4 | j4
        · exact .inl (k3.done c0 j4)
        · exact .inr (List.mem_cons_of_mem _ j4)
      · show 2 * msr (turnP E u b).1 + (o :: b :: t).length < 2 * msr u + (b :: t).length
        have := k4 ku; simp only [List.length_cons]; omega
theorem stack_start {r : Rn} {cs : List Nat} {c : Nat} (hlt : c < 48) (hi : Inv E val S0 Cl X r cs) (hn : ∀ x, waitB r x = false) : SJ E val S0 Cl X r c ⟨[c], r⟩ :=
  ⟨⟨cs, hi⟩, { stk := trivial, nd := by simp, lt := by intro x hx; rw [List.mem_singleton] at hx; rw [hx]; exact hlt, only := fun x hx => by rw [hn x] at hx; cases hx }, Frd.refl r, .inr (by simp)⟩
theorem SJ.fin {r : Rn} {c0 : Nat} {r' : Rn} (h : SJ E val S0 Cl X r c0 ⟨[], r'⟩) : (∃ cs', Inv E val S0 Cl X r' cs') ∧ Frd r r' ∧ (r'.tk c0).st = 3 ∧ ∀ x, waitB r' x = false := by
  obtain ⟨i1, i2, i3, i4⟩ := h
  refine ⟨i1, i3, ?_, fun x => ?_⟩
  · rcases i4 with i4 | i4
    · exact i4
    · cases i4
  · cases hb : waitB r' x with
    | false => rfl
    | true => have := i2.only x hb; cases this
theorem stack_all (hW : RightW E) (hX : XK E val S0 Cl X) {r : Rn} {cs : List Nat} {c : Nat} (hlt : c < 48) (hi : Inv E val S0 Cl X r cs) (hn : ∀ x, waitB r x = false) :
    ∃ r', Ends (stackF E) queueE ⟨[c], r⟩ ⟨[], r'⟩ ∧ (∃ cs', Inv E val S0 Cl X r' cs') ∧ Frd r r' ∧ (r'.tk c).st = 3 ∧ ∀ x, waitB r' x = false := by
  have h0 : SI r [c] := { stk := trivial, nd := by simp, lt := by intro x hx; rw [List.mem_singleton] at hx; rw [hx]; exact hlt, only := fun x hx => by rw [hn x] at hx; cases hx }
  obtain ⟨s', e1, ⟨cs', i1⟩, i2, i3, i4⟩ := ends_of (f := stackF E) (fin := queueE) (fun s => (∃ cs, Inv E val S0 Cl X s.r cs) ∧ SI s.r s.q ∧ Frd r s.r ∧ ((s.r.tk c).st = 3 ∨ c ∈ s.q)) (fun s => 100 * msr s.r + s.q.length) (by
    rintro ⟨q, u⟩ ⟨⟨cs1, j1⟩, j2, j3, j4⟩ hf
    dsimp only at j1 j2 j3 j4 ⊢
    cases q with
    | nil => cases hf
    | cons b t =>
      obtain ⟨k1, k2, k3, k4, k5⟩ := stack_step hW hX j1 j2
      rcases k1 with ⟨e, kt, ks, k3'⟩ | ⟨o, e, kt, ko, ks, kw, ku⟩
      · rw [e]
        refine ⟨⟨k2, ks, j3.trans k3, ?_⟩, ?_⟩
        · rcases j4 with j4 | j4
          · exact .inl (k3.done c j4)
          · rcases List.mem_cons.1 j4 with rfl | j4
            · exact .inl k3'
            · exact .inr j4
        · by_cases hu : (u.tk b).st = 3
          · rw [k5 hu]; simp
          · have := k4 hu; simp only [List.length_cons]; omega
      · rw [e]
        refine ⟨⟨k2, ks, j3.trans k3, ?_⟩, ?_⟩
        · rcases j4 with j4 | j4
          · exact .inl (k3.done c j4)
          · exact .inr (List.mem_cons_of_mem _ j4)
        · have := k4 ku; simp only [List.length_cons]; omega) _ ⟨[c], r⟩ (Nat.le_refl _) ⟨⟨cs, hi⟩, h0, Frd.refl r, .inr (by simp)⟩
  obtain ⟨q', r'⟩ := s'
  have hq : q' = [] := by
    obtain ⟨n, _, hf, _⟩ := e1
    simpa [queueE] using hf
  subst hq
  refine ⟨r', e1, ⟨cs', i1⟩, i3, ?_, fun x => ?_⟩
  · rcases i4 with i4 | i4
    · exact i4
    · cases i4
  · cases hb : waitB r' x with
    | false => rfl
    | true => have := i2.only x hb; cases this
theorem sus_all (hW : RightW E) (hX : XK E val S0 Cl X) : ∀ (k c : Nat) (r : Rn) (cs : List Nat), c + k ≤ 48 → Inv E val S0 Cl X r cs → (∀ x, waitB r x = false) →
    ∃ r', Sus E k c r r' ∧ (∃ cs', Inv E val S0 Cl X r' cs') ∧ Frd r r' ∧ ∀ x, c ≤ x → x < c + k → (r'.tk x).st = 3
  | 0, c, r, cs, _, hi, _ => ⟨r, rfl, ⟨cs, hi⟩, Frd.refl r, fun x h1 h2 => absurd h2 (by omega)⟩
  | k + 1, c, r, cs, hk, hi, hn => by
    obtain ⟨r1, e1, ⟨cs1, i1⟩, i2, i3, i4⟩ := stack_all hW hX (c := c) (by omega) hi hn
    obtain ⟨r', j1, j2, j3, j4⟩ := sus_all hW hX k (c + 1) r1 cs1 (by omega) i1 i4
    refine ⟨r', ⟨r1, e1, j1⟩, j2, i2.trans j3, fun x h1 h2 => ?_⟩
    by_cases e : x = c
    · rw [e]; exact j3.done c i3
    · exact j4 x (by omega) (by omega)
def ChJ (E : Env) (val : Nat → V) (S0 : Con) (Cl : Nat → Prop) (X : Nat → Ans → Prop) (r : Rn) (s : CS) : Prop :=
  (∃ cs, Inv E val S0 Cl X s.r cs) ∧ ChOK s.ch ∧ Frd r s.r ∧ (s.at' ≤ 48 ∧ (∀ x ∈ s.ch.take s.at', (s.r.tk x).st = 3)) ∧ ∃ stk rest, s.ch.drop s.at' = stk ++ rest ∧ SI s.r stk
def chPot (s : CS) : Nat := msr s.r + (48 - s.at')
theorem chain_step (hW : RightW E) (hX : XK E val S0 Cl X) {r : Rn} {s : CS} (hJ : ChJ E val S0 Cl X r s) (hf : chainE s = false) :
    (ChJ E val S0 Cl X r (chainF E s) ∧ chPot (chainF E s) < chPot s) ∧ ∃ c, c < 48 ∧ s.ch[s.at']? = some c ∧
      (((turnP E s.r c).2.2 = true ∧ chainF E s = ⟨s.at' + 1, s.ch, (turnP E s.r c).1⟩) ∨
        ((turnP E s.r c).2.2 = false ∧ ∃ o : Nat, (turnP E s.r c).2.1 = o ∧ o < 48 ∧ o ≠ c ∧ o ∈ s.ch.drop s.at' ∧ chainF E s = ⟨s.at', moveP s.at' o s.ch, leaveP (turnP E s.r c).1 c⟩)) := by
  obtain ⟨at', l, u⟩ := s
  obtain ⟨⟨cs1, j1⟩, j2, j3, ⟨j4, j5⟩, stk, rest, j6, j7⟩ := hJ
  have hat : at' < 48 := by simpa [chainE] using hf
  have hlen := j2.len
  dsimp only at j1 j2 j3 j4 j5 j6 j7 hlen ⊢
  obtain ⟨c, t, rest, j6, j7⟩ : ∃ c t rest, l.drop at' = (c :: t) ++ rest ∧ SI u (c :: t) := by
    cases stk with
    | cons c t => exact ⟨c, t, rest, j6, j7⟩
    | nil =>
      cases rest with
      | nil =>
        exfalso
        have := congrArg List.length j6
        rw [List.length_drop] at this
        simp at this
        omega
      | cons c rest =>
        refine ⟨c, [], rest, j6, { stk := trivial, nd := by simp, lt := ?_, only := fun x hx => (by have := j7.only x hx; cases this) }⟩
        intro x hx
        rw [List.mem_singleton] at hx
        subst hx
        exact j2.only x (List.mem_of_mem_drop (i := at') (by rw [j6]; simp))
  have hget : l[at']? = some c := by
    have := congrArg (fun m => m[0]?) j6
    simpa using this
  have hgd : l.getD at' 0 = c := by rw [List.getD_eq_getElem?_getD, hget]; rfl
  obtain ⟨k1, k2, k3, k4, k5⟩ := stack_step hW hX j1 j7
  rcases k1 with ⟨_, kt, ks, k3'⟩ | ⟨o, _, kt, ko, ks, kw, ku⟩
  · have e : chainF E ⟨at', l, u⟩ = ⟨at' + 1, l, (turnP E u c).1⟩ := by
      simp only [chainF, hgd, kt, if_true]
    refine ⟨?_, c, j2.only c (List.mem_of_getElem? hget), hget, .inl ⟨kt, e⟩⟩
    rw [e]
    refine ⟨⟨k2, j2, j3.trans k3, ⟨by show at' + 1 ≤ 48; omega, ?_⟩, t, rest, ?_, ks⟩, ?_⟩
    · intro x hx
      have hx : x ∈ l.take (at' + 1) := hx
      rw [take_next hget, List.mem_append, List.mem_singleton] at hx
      rcases hx with hx | rfl
      · exact k3.done x (j5 x hx)
      · exact k3'
    · show l.drop (at' + 1) = t ++ rest
      exact (drop_head j6).2
    · show msr (turnP E u c).1 + (48 - (at' + 1)) < msr u + (48 - at')
      by_cases hu : (u.tk c).st = 3
      · rw [k5 hu]; omega
      · have := k4 hu; omega
  · have e : chainF E ⟨at', l, u⟩ = ⟨at', moveP at' o l, leaveP (turnP E u c).1 c⟩ := by
      simp only [chainF, hgd, kt, ko]
      simp
    have hnd := ks.nd
    have ho1 : o ∉ c :: t := (List.nodup_cons.1 hnd).1
    have ho2 : o ∈ l.drop at' := by
      have hm : o ∈ l := j2.all o kw.lt
      rw [← List.take_append_drop at' l, List.mem_append] at hm
      rcases hm with hm | hm
      · exact absurd (k3.done o (j5 o hm)) kw.open'
      · exact hm
    refine ⟨?_, c, j2.only c (List.mem_of_getElem? hget), hget, .inr ⟨kt, o, ko, kw.lt, (fun e => ho1 (e ▸ List.mem_cons_self)), ho2, e⟩⟩
    rw [e]
    have ho3 : o ∈ rest := by
      rw [j6, List.mem_append] at ho2
      rcases ho2 with h | h
      · exact absurd h ho1
      · exact h
    have hdr : (moveP at' o l).drop at' = (o :: c :: t) ++ rest.erase o := by
      unfold moveP
      rw [List.drop_append_of_le_length (by rw [List.length_take]; omega), List.drop_eq_nil_of_le (by rw [List.length_take]; omega), j6, List.erase_append_right _ ho1]
      rfl
    have htk : (moveP at' o l).take at' = l.take at' := by
      unfold moveP
      rw [List.take_append_of_le_length (by rw [List.length_take]; omega), List.take_of_length_le (by rw [List.length_take]; omega)]
    refine ⟨⟨?_, ?_, ?_, ⟨j4, ?_⟩, o :: c :: t, rest.erase o, hdr, ks.leave kw.mine⟩, ?_⟩
    · obtain ⟨cs2, k2⟩ := k2; exact ⟨cs2, leave_ok k2 kw.mine⟩
    · refine { len := ?_, all := ?_, only := ?_ }
      · show (moveP at' o l).length = 48
        unfold moveP
        rw [List.length_append, List.length_cons, List.length_erase_of_mem ho2, List.length_take, List.length_drop]
        have : 0 < (l.drop at').length := List.length_pos_of_mem ho2
        rw [List.length_drop] at this
        omega
      · intro x hx
        show x ∈ moveP at' o l
        unfold moveP
        have hm : x ∈ l := j2.all x hx
        rw [← List.take_append_drop at' l, List.mem_append] at hm
        rw [List.mem_append]
        rcases hm with hm | hm
        · exact .inl hm
        · right
          by_cases e : x = o
          · rw [e]; exact List.mem_cons_self
          · exact List.mem_cons_of_mem _ ((List.mem_erase_of_ne e).2 hm)
      · intro x hx
        have hx : x ∈ moveP at' o l := hx
        unfold moveP at hx
        rw [List.mem_append] at hx
        rcases hx with hx | hx
        · exact j2.only x (List.mem_of_mem_take hx)
        · rcases List.mem_cons.1 hx with rfl | hx
          · exact kw.lt
          · exact j2.only x (List.mem_of_mem_drop (List.mem_of_mem_erase hx))
    · exact (j3.trans k3).trans (frd_leave _ kw.mine)
    · intro x hx
      have hx : x ∈ (moveP at' o l).take at' := hx
      rw [htk] at hx
      exact (frd_leave _ kw.mine).done x (k3.done x (j5 x hx))
    · show msr (leaveP (turnP E u c).1 c) + (48 - at') < msr u + (48 - at')
      rw [msr_leave kw.mine]
      have := k4 ku
      omega
theorem chain_start {r : Rn} {cs : List Nat} {ch : List Nat} (hc : ChOK ch) (hi : Inv E val S0 Cl X r cs) (hn : ∀ x, waitB r x = false) : ChJ E val S0 Cl X r ⟨0, ch, r⟩ :=
  ⟨⟨cs, hi⟩, hc, Frd.refl r, ⟨by show 0 ≤ 48; omega, by intro x hx; simp at hx⟩, [], ch, rfl, { stk := trivial, nd := by simp, lt := by simp, only := fun x hx => by rw [hn x] at hx; cases hx }⟩
theorem chain_all (hW : RightW E) (hX : XK E val S0 Cl X) {r : Rn} {cs : List Nat} {ch : List Nat} (hc : ChOK ch) (hi : Inv E val S0 Cl X r cs) (hn : ∀ x, waitB r x = false) :
    ∃ ch' r', Ends (chainF E) chainE ⟨0, ch, r⟩ ⟨48, ch', r'⟩ ∧ (∃ cs', Inv E val S0 Cl X r' cs') ∧ Frd r r' ∧ ChOK ch' ∧ ∀ x, x < 48 → (r'.tk x).st = 3 := by
  have h0 : ChJ E val S0 Cl X r ⟨0, ch, r⟩ := chain_start hc hi hn
  obtain ⟨s', e1, ⟨cs', i1⟩, i2, i3, i4, i5⟩ := ends_of (f := chainF E) (fin := chainE) (ChJ E val S0 Cl X r) chPot (fun s hJ hf => (chain_step hW hX hJ hf).1) _ ⟨0, ch, r⟩ (Nat.le_refl _) h0
  obtain ⟨at', ch', r'⟩ := s'
  dsimp only at i1 i2 i3 i4 i5
  have hat : at' = 48 := by
    obtain ⟨n, _, hf, _⟩ := e1
    have : 48 ≤ at' := by simpa [chainE] using hf
    omega
  subst hat
  refine ⟨ch', r', e1, ⟨cs', i1⟩, i3, i2, fun x hx => i4.2 x ?_⟩
  rw [List.take_of_length_le (by rw [i2.len]; omega)]
  exact i2.all x hx
def QJ (E : Env) (val : Nat → V) (S0 : Con) (Cl : Nat → Prop) (X : Nat → Ans → Prop) (r : Rn) (s : QS) : Prop :=
  (∃ cs, Inv E val S0 Cl X s.r cs) ∧ Frd r s.r ∧ (∀ x, x < 48 → (s.r.tk x).st ≠ 3 → x ∈ s.q) ∧ s.q.length ≤ 48 ∧ ∀ x ∈ s.q, x < 48
def qM (s : QS) : Nat := 10000 * msr s.r + 100 * s.q.length + s.q.findIdx (fun c => !stillB s.r c)
def qPot (s : QS) : Nat := msr s.r + s.q.length
theorem queue_step (hW : RightW E) (hX : XK E val S0 Cl X) {r : Rn} {s : QS} (hJ : QJ E val S0 Cl X r s) (hf : queueE s = false) :
    (QJ E val S0 Cl X r (queueF E s) ∧ qM (queueF E s) < qM s) ∧ ∃ c t, s.q = c :: t ∧ c < 48 ∧
      ((stillB s.r c = true ∧ queueF E s = ⟨t ++ [c], s.r⟩) ∨
        (stillB s.r c = false ∧ (((turnP E s.r c).2.2 = true ∧ queueF E s = ⟨t, (turnP E s.r c).1⟩) ∨ ((turnP E s.r c).2.2 = false ∧ queueF E s = ⟨t ++ [c], leaveP (turnP E s.r c).1 c⟩)) ∧ qPot (queueF E s) < qPot s)) := by
  obtain ⟨q, u⟩ := s
  obtain ⟨⟨cs1, j1⟩, j2, j3, j4, j5⟩ := hJ
  dsimp only at j1 j2 j3 j4 j5 ⊢
  cases q with
  | nil => cases hf
  | cons c t =>
    have hlen : ∀ (m : List Nat) (v : Rn), m.findIdx (fun c => !stillB v c) ≤ m.length := fun m v => List.findIdx_le_length
    by_cases hst : stillB u c = true
    · have e : queueF E ⟨c :: t, u⟩ = ⟨t ++ [c], u⟩ := by simp only [queueF, hst, if_true]
      refine ⟨?_, c, t, rfl, j5 c List.mem_cons_self, .inl ⟨hst, e⟩⟩
      rw [e]
      have hex : ∃ x ∈ c :: t, stillB u x = false := by
        refine Classical.byContradiction fun hno => ?_
        have hall : ∀ x ∈ c :: t, stillB u x = true := fun x hx => by
          cases hb : stillB u x with
          | true => rfl
          | false => exact absurd ⟨x, hx, hb⟩ hno
        have hgo : ∀ n, ∀ x ∈ c :: t, ∃ y ∈ c :: t, along u.wts n x = (y : Int) := by
          intro n
          induction n with
          | zero => intro x hx; exact ⟨x, hx, rfl⟩
          | succ n ih =>
            intro x hx
            have hb := hall x hx
            unfold stillB at hb
            simp only [Bool.and_eq_true, decide_eq_true_eq] at hb
            obtain ⟨w1, w2⟩ := j1.wt x
            have h0 : 0 ≤ (u.tk x).wt := by omega
            obtain ⟨y, hy, he⟩ := ih (u.tk x).wt.toNat (j3 _ (w2 h0).2 hb.2)
            refine ⟨y, hy, ?_⟩
            show along u.wts n (if 0 ≤ (x : Int) then u.wts (x : Int).toNat else -1) = y
            rw [if_pos (by omega), Int.toNat_natCast]
            show along u.wts n (u.tk x).wt = y
            rw [← Int.toNat_of_nonneg h0]; exact he
        obtain ⟨n, hn⟩ := j1.ends c
        obtain ⟨y, _, hy⟩ := hgo n c List.mem_cons_self
        rw [hn] at hy; omega
      obtain ⟨x, hx, hxb⟩ := hex
      have hxt : x ∈ t := by
        rcases List.mem_cons.1 hx with rfl | hx
        · rw [hxb] at hst; cases hst
        · exact hx
      have hft : t.findIdx (fun c => !stillB u c) < t.length := List.findIdx_lt_length_of_exists ⟨x, hxt, by simp [hxb]⟩
      refine ⟨⟨⟨cs1, j1⟩, j2, ?_, ?_, fun y hy => j5 y (by rcases List.mem_append.1 hy with h | h; exact List.mem_cons_of_mem _ h; rw [List.mem_singleton] at h; rw [h]; exact List.mem_cons_self)⟩, ?_⟩
      · intro y hy hy3
        rcases List.mem_cons.1 (j3 y hy hy3) with rfl | h
        · simp
        · exact List.mem_append_left _ h
      · simp at j4 ⊢; omega
      · show 10000 * msr u + 100 * (t ++ [c]).length + (t ++ [c]).findIdx (fun c => !stillB u c) < 10000 * msr u + 100 * (c :: t).length + (c :: t).findIdx (fun c => !stillB u c)
        rw [List.findIdx_append, if_pos hft, List.findIdx_cons]
        simp [hst]
    · have hst' : stillB u c = false := by simpa using hst
      obtain ⟨⟨cs2, g1⟩, g2⟩ := turn_ok (c := c) hW hX j1
      have hset : (u.tk c).st = 3 → (turnP E u c).1 = u := fun h => by rw [turn_settled h]
      have hfr : Frd u (turnP E u c).1 := g2.frd (fun h => by rw [hset h]; exact h)
      have hwb : waitB u c = false := by
        unfold stillB at hst'
        unfold waitB
        obtain ⟨w1, w2⟩ := j1.wt c
        by_cases h0 : 0 ≤ (u.tk c).wt
        · have hne : (u.tk c).wt ≠ -1 := by omega
          simp [hne] at hst'
          simp [hst']
        · simp [h0]
      rcases g2.out with ⟨h1, h2, h3⟩ | ⟨h1, o, h2, hw⟩
      · have e : queueF E ⟨c :: t, u⟩ = ⟨t, (turnP E u c).1⟩ := by simp only [queueF, hst', h1, if_true]; simp
        refine ⟨?_, c, t, rfl, j5 c List.mem_cons_self, .inr ⟨hst', .inl ⟨h1, e⟩, ?_⟩⟩
        rotate_left
        · rw [e]
          show msr (turnP E u c).1 + t.length < msr u + (c :: t).length
          rw [List.length_cons]
          by_cases hu : (u.tk c).st = 3
          · rw [hset hu]; omega
          · have := turn_less j1 hu hwb g2; omega
        rw [e]
        refine ⟨⟨⟨cs2, g1⟩, j2.trans hfr, ?_, (by simp at j4; show t.length ≤ 48; omega), fun y hy => j5 y (List.mem_cons_of_mem _ hy)⟩, ?_⟩
        · intro y hy hy3
          have hyc : y ≠ c := fun e => hy3 (e ▸ h3)
          have : (u.tk y).st ≠ 3 := by rw [← g2.frm.tk y hyc]; exact hy3
          rcases List.mem_cons.1 (j3 y hy this) with rfl | h
          · exact absurd rfl hyc
          · exact h
        · show 10000 * msr (turnP E u c).1 + 100 * t.length + t.findIdx _ < 10000 * msr u + 100 * (c :: t).length + _
          have hl := hlen t (turnP E u c).1
          simp only [List.length_cons] at j4 ⊢
          by_cases hu : (u.tk c).st = 3
          · rw [hset hu] at hl ⊢; omega
          · have := turn_less j1 hu hwb g2; omega
      · have hu : (u.tk c).st ≠ 3 := by
          intro e; rw [turn_settled e] at h1; cases h1
        have e : queueF E ⟨c :: t, u⟩ = ⟨t ++ [c], leaveP (turnP E u c).1 c⟩ := by simp only [queueF, hst', h1]; simp
        refine ⟨?_, c, t, rfl, j5 c List.mem_cons_self, .inr ⟨hst', .inr ⟨h1, e⟩, ?_⟩⟩
        rotate_left
        · rw [e]
          show msr (leaveP (turnP E u c).1 c) + (t ++ [c]).length < msr u + (c :: t).length
          rw [msr_leave hw.mine]
          have := turn_less j1 hu hwb g2
          simp only [List.length_cons, List.length_append, List.length_nil]
          omega
        rw [e]
        refine ⟨⟨⟨cs2, leave_ok g1 hw.mine⟩, (j2.trans hfr).trans (frd_leave _ hw.mine), ?_, (by simp at j4 ⊢; omega), fun y hy => j5 y (by rcases List.mem_append.1 hy with h | h; exact List.mem_cons_of_mem _ h; rw [List.mem_singleton] at h; rw [h]; exact List.mem_cons_self)⟩, ?_⟩
        · intro y hy hy3
          have hy4 : (u.tk y).st ≠ 3 := fun h => hy3 ((frd_leave _ hw.mine).done y (hfr.done y h))
          rcases List.mem_cons.1 (j3 y hy hy4) with rfl | h
          · simp
          · exact List.mem_append_left _ h
        · show 10000 * msr (leaveP (turnP E u c).1 c) + 100 * (t ++ [c]).length + (t ++ [c]).findIdx _ < 10000 * msr u + 100 * (c :: t).length + _
          have hl := hlen (t ++ [c]) (leaveP (turnP E u c).1 c)
          rw [msr_leave hw.mine]
          have := turn_less j1 hu hwb g2
          simp only [List.length_cons, List.length_append, List.length_nil] at j4 hl ⊢
          omega
theorem queue_start {r : Rn} {cs : List Nat} (hi : Inv E val S0 Cl X r cs) : QJ E val S0 Cl X r ⟨List.range 48, r⟩ :=
  ⟨⟨cs, hi⟩, Frd.refl r, fun x hx _ => List.mem_range.2 hx, (by simp), fun x hx => List.mem_range.1 hx⟩
theorem queue_all (hW : RightW E) (hX : XK E val S0 Cl X) {r : Rn} {cs : List Nat} (hi : Inv E val S0 Cl X r cs) :
    ∃ r', Ends (queueF E) queueE ⟨List.range 48, r⟩ ⟨[], r'⟩ ∧ (∃ cs', Inv E val S0 Cl X r' cs') ∧ Frd r r' ∧ ∀ x, x < 48 → (r'.tk x).st = 3 := by
  obtain ⟨s', e1, ⟨cs', i1⟩, i2, i3, i4⟩ := ends_of (f := queueF E) (fin := queueE) (QJ E val S0 Cl X r) qM (fun s hJ hf => (queue_step hW hX hJ hf).1) _ ⟨List.range 48, r⟩ (Nat.le_refl _) (queue_start hi)
  obtain ⟨q', r'⟩ := s'
  have hq : q' = [] := by
    obtain ⟨n, _, hf, _⟩ := e1
    simpa [queueE] using hf
  subst hq
  refine ⟨r', e1, ⟨cs', i1⟩, i2, fun x hx => ?_⟩
  refine Classical.byContradiction fun h => ?_
  have := i3 x hx h
  cases this
end
end Go.Proofs.YtlpmmmmniojflaaGreatDoor
/- Plain mathematics: Work as a whole: what is kept, how a round begins, dirty marks, what comes of it. -/
set_option linter.unusedVariables false
set_option linter.unusedSimpArgs false
namespace Go.Proofs.YtlpmmmmniojflaaGreatDoor
structure Kp where
  last : Nat → Ans
  ch : List Nat
  store : Sto
def dn (fs : Nat → ByteArray) (last : Nat → Ans) : Nat → Nat → Prop
  | 0, c => ¬ ((last c).f = fs c ∧ (last c).v ≠ cyc)
  | n + 1, c => dn fs last n c ∨ ∃ x ∈ (last c).rs, dn fs last n x.nd.c
def MarkOK (fs : Nat → ByteArray) (last : Nat → Ans) (mk : Nat → Bool) : Prop := ∀ c, mk c = true ↔ ∃ n, dn fs last n c
theorem mark_ex (fs : Nat → ByteArray) (last : Nat → Ans) : ∃ mk, MarkOK fs last mk := by
  have : ∀ c, ∃ b : Bool, b = true ↔ ∃ n, dn fs last n c := by
    intro c
    by_cases h : ∃ n, dn fs last n c
    · exact ⟨true, by simp [h]⟩
    · exact ⟨false, by simp [h]⟩
  exact ⟨fun c => Classical.choose (this c), fun c => Classical.choose_spec (this c)⟩
theorem MarkOK.same {fs : Nat → ByteArray} {last : Nat → Ans} {mk mk' : Nat → Bool} (h : MarkOK fs last mk) (h' : MarkOK fs last mk') : mk = mk' := by
  funext c
  rw [Bool.eq_iff_iff, h c, h' c]
def tk0 (fs : Nat → ByteArray) (last : Nat → Ans) (way : Nat) (mk : Nat → Bool) (c : Nat) : Tsk :=
  if fs c = eB then ⟨3, -1, [], 0, retA vN, ans0⟩ else if way = 0 ∧ mk c = false then ⟨3, -1, [], 0, retA vN, last c⟩ else ⟨0, -1, [], 0, retA vN, ans0⟩
def newP (fs : Nat → ByteArray) (k : Kp) (way : Nat) (mk : Nat → Bool) : Rn := ⟨fs, k.last, k.store, way, tk0 fs k.last way mk, []⟩
def roundP (E : Env) (order : Nat) (r : Rn) (ch : List Nat) (r' : Rn) (ch' : List Nat) : Prop :=
  (order = 0 ∧ Ends (chainF E) chainE ⟨0, ch, r⟩ ⟨48, ch', r'⟩) ∨ (order = 1 ∧ Ends (queueF E) queueE ⟨List.range 48, r⟩ ⟨[], r'⟩ ∧ ch' = ch) ∨ (order = 2 ∧ Sus E 48 0 r r' ∧ ch' = ch)
def workedP (k : Kp) (fs : Nat → ByteArray) : Prop := ∀ c, c < 48 → (k.last c).f = fs c
def WorkP (E : Env) (k : Kp) (fs : Nat → ByteArray) (order way : Nat) (k' : Kp) (bg : List Nat) : Prop :=
  (workedP k fs ∧ k' = k ∧ bg = []) ∨ (¬ workedP k fs ∧ ∃ mk r' ch', MarkOK fs k.last mk ∧ roundP E order (newP fs k way mk) k.ch r' ch' ∧ k' = ⟨fun c => (r'.tk c).an, ch', r'.store⟩ ∧ bg = r'.bg)
theorem Sus.same {E : Env} : ∀ (k c : Nat) (r r1 r2 : Rn), Sus E k c r r1 → Sus E k c r r2 → r1 = r2
  | 0, _, _, _, _, h1, h2 => h1.trans h2.symm
  | k + 1, c, r, r1, r2, ⟨u1, a1, b1⟩, ⟨u2, a2, b2⟩ => by
    have := a1.same a2
    cases this
    exact Sus.same k (c + 1) _ _ _ b1 b2
theorem roundP.same {E : Env} {order : Nat} {r r1 r2 : Rn} {ch c1 c2 : List Nat} (h1 : roundP E order r ch r1 c1) (h2 : roundP E order r ch r2 c2) : r1 = r2 ∧ c1 = c2 := by
  rcases h1 with ⟨o1, e1⟩ | ⟨o1, e1, f1⟩ | ⟨o1, e1, f1⟩ <;> rcases h2 with ⟨o2, e2⟩ | ⟨o2, e2, f2⟩ | ⟨o2, e2, f2⟩ <;> try omega
  · have := e1.same e2
    cases this; exact ⟨rfl, rfl⟩
  · have := e1.same e2
    cases this; exact ⟨rfl, f1.trans f2.symm⟩
  · exact ⟨Sus.same _ _ _ _ _ e1 e2, f1.trans f2.symm⟩
theorem WorkP.same {E : Env} {k k1 k2 : Kp} {fs : Nat → ByteArray} {order way : Nat} {b1 b2 : List Nat} (h1 : WorkP E k fs order way k1 b1) (h2 : WorkP E k fs order way k2 b2) : k1 = k2 ∧ b1 = b2 := by
  rcases h1 with ⟨a, e, f⟩ | ⟨a, mk, r', ch', m, h, e, f⟩ <;> rcases h2 with ⟨a', e', f'⟩ | ⟨a', mk', r'', ch'', m', h', e', f'⟩
  · exact ⟨e.trans e'.symm, f.trans f'.symm⟩
  · exact absurd a a'
  · exact absurd a' a
  · have := m.same m'
    subst this
    obtain ⟨rfl, rfl⟩ := h.same h'
    exact ⟨e.trans e'.symm, f.trans f'.symm⟩
structure KInv (E : Env) (fs : Nat → ByteArray) (k : Kp) : Prop where
  fit : ∀ c, fs c ≠ eB → ActN (E.B (fs c)) (E.D (fs c))
  out : ∀ c, 48 ≤ c → fs c = eB
  f : ∀ c, (k.last c).f = fs c
  v : ∀ c, Val E.D fs c (k.last c).v
  none : ∀ c, fs c = eB → k.last c = ans0
  good : ∀ c, fs c ≠ eB → (k.last c).v ≠ cyc → VA E (k.last c) ∧ Hold (fun c => (k.last c).v) (k.last c).rs
  ch : ChOK k.ch
  sw : SW k.store
  sto : ∀ a ∈ k.store.has, VA E a
structure FsOK (E : Env) (fs : Nat → ByteArray) : Prop where
  fit : ∀ c, fs c ≠ eB → ActN (E.B (fs c)) (E.D (fs c))
  out : ∀ c, 48 ≤ c → fs c = eB
theorem KInv.fs {E : Env} {fs : Nat → ByteArray} {k : Kp} (h : KInv E fs k) : FsOK E fs := ⟨h.fit, h.out⟩
theorem clean_ev {E : Env} {fs0 fs : Nat → ByteArray} {k : Kp} (hk : KInv E fs0 k) {mk : Nat → Bool} (hm : MarkOK fs k.last mk) : ∀ (n c : Nat) (v : V), mk c = false → ev E.D fs0 n c v → ev E.D fs n c v
  | 0, _, _, _, h => h
  | n + 1, c, v, hc, h => by
    have hn : ¬ ∃ n, dn fs k.last n c := fun h => by rw [(hm c).2 h] at hc; cases hc
    have h0 : (k.last c).f = fs c ∧ (k.last c).v ≠ cyc := Classical.byContradiction fun h => hn ⟨0, h⟩
    have hf : fs0 c = fs c := by rw [← hk.f c]; exact h0.1
    rcases h with ⟨h1, h2⟩ | ⟨h1, rs, h2, h3, h4⟩
    · exact .inl ⟨by rw [← hf]; exact h1, h2⟩
    · refine .inr ⟨by rw [← hf]; exact h1, rs, by rw [← hf]; exact h2, by rw [← hf]; exact h3, fun x hx => ?_⟩
      obtain ⟨⟨g0, g1, g2, g3⟩, g4⟩ := hk.good c h1 h0.2
      rw [hk.f c] at g1 g2
      have hs := (tr_same rs (k.last c).rs _ _ _ h2 g1 h3 g2 fun r hr r' hr' e => by
        obtain ⟨u, k1, k2⟩ := h4 r hr
        obtain ⟨w1, w2⟩ := g4 r' hr'
        have : u = (k.last r.nd.c).v := Val.same (D := E.D) (fs := fs0) (.inl ⟨n, k1⟩) (hk.v _)
        rw [k2, w1, ← e, this]).1
      obtain ⟨u, k1, k2⟩ := h4 x hx
      refine ⟨u, clean_ev hk hm n _ u ?_ k1, k2⟩
      cases hb : mk x.nd.c with
      | false => rfl
      | true =>
        obtain ⟨m, hm⟩ := (hm _).1 hb
        exact absurd ⟨m + 1, .inr ⟨x, by rw [← hs]; exact hx, hm⟩⟩ hn
theorem new_inv {E : Env} {fs0 fs : Nat → ByteArray} {k : Kp} (hk : KInv E fs0 k) (hfs : FsOK E fs) {mk : Nat → Bool} (hm : MarkOK fs k.last mk) (way : Nat) {val : Nat → V} (hv : ∀ c, Val E.D fs c (val c)) (X : Nat → Ans → Prop) :
    Inv E val ⟨k.store, fs, k.last, way⟩ (fun c => way = 0 ∧ mk c = false) X (newP fs k way mk) [] := by
  have tkE : ∀ c, fs c = eB → (newP fs k way mk).tk c = ⟨3, -1, [], 0, retA vN, ans0⟩ := fun c h => by show tk0 _ _ _ _ _ = _; unfold tk0; rw [if_pos h]
  have tkC : ∀ c, fs c ≠ eB → way = 0 ∧ mk c = false → (newP fs k way mk).tk c = ⟨3, -1, [], 0, retA vN, k.last c⟩ := fun c h h' => by show tk0 _ _ _ _ _ = _; unfold tk0; rw [if_neg h, if_pos h']
  have tkF : ∀ c, fs c ≠ eB → ¬ (way = 0 ∧ mk c = false) → (newP fs k way mk).tk c = ⟨0, -1, [], 0, retA vN, ans0⟩ := fun c h h' => by show tk0 _ _ _ _ _ = _; unfold tk0; rw [if_neg h, if_neg h']
  have hwt : ∀ c, ((newP fs k way mk).tk c).wt = -1 := by
    intro c
    by_cases h : fs c = eB
    · rw [tkE c h]
    · by_cases h' : way = 0 ∧ mk c = false
      · rw [tkC c h h']
      · rw [tkF c h h']
  have clean : ∀ c, way = 0 ∧ mk c = false → (k.last c).f = fs c ∧ (k.last c).v ≠ cyc ∧ val c = (k.last c).v := by
    intro c hc
    have hn : ¬ ∃ n, dn fs k.last n c := fun h => by have := hc.2; rw [(hm c).2 h] at this; cases this
    have h0 : (k.last c).f = fs c ∧ (k.last c).v ≠ cyc := Classical.byContradiction fun h => hn ⟨0, h⟩
    obtain ⟨n, hn⟩ := (hk.v c).ev h0.2
    exact ⟨h0.1, h0.2, (hv c).same (.inl ⟨n, clean_ev hk hm n c _ hc.2 hn⟩)⟩
  refine { hv := hv, fit := hfs.fit, con := ⟨rfl, rfl, rfl⟩, st := ?_, sett := ?_, uns := ?_, wt := ?_, ends := ?_, sto := rfl, sw := hk.sw, stoOK := fun a ha => ⟨hk.sto a ha, .inl ha⟩, lastOK := ?_, nodup := by simp, csOK := by simp, bg := fun c hc => (by cases hc), bgE := fun _ => rfl, done := ?_, cl := ?_, x := ?_ }
  · intro c
    by_cases h : fs c = eB
    · rw [tkE c h]; exact Nat.le_refl _
    · by_cases h' : way = 0 ∧ mk c = false
      · rw [tkC c h h']; exact Nat.le_refl _
      · rw [tkF c h h']; exact Nat.zero_le _
  · intro c h3
    by_cases h : fs c = eB
    · exact { wt := hwt c, f := by rw [tkE c h]; exact h.symm, v := by rw [tkE c h]; exact ((hv c).none h).symm, good := fun g => absurd h g, none := fun _ => by rw [tkE c h] }
    · by_cases h' : way = 0 ∧ mk c = false
      · obtain ⟨c1, c2, c3⟩ := clean c h'
        refine { wt := hwt c, f := by rw [tkC c h h']; exact c1, v := by rw [tkC c h h']; exact c3.symm, good := fun _ _ => ?_, none := fun g => absurd g h }
        rw [tkC c h h']
        have hf : fs0 c = fs c := by rw [← hk.f c]; exact c1
        obtain ⟨g1, g2⟩ := hk.good c (by rw [hf]; exact h) c2
        refine ⟨g1, fun x hx => ?_⟩
        obtain ⟨w1, w2⟩ := g2 x hx
        have hcx : way = 0 ∧ mk x.nd.c = false := by
          refine ⟨h'.1, ?_⟩
          cases hb : mk x.nd.c with
          | false => rfl
          | true =>
            obtain ⟨m, hm'⟩ := (hm _).1 hb
            have : mk c = true := (hm c).2 ⟨m + 1, .inr ⟨x, hx, hm'⟩⟩
            rw [h'.2] at this; cases this
        rw [(clean _ hcx).2.2]
        exact ⟨w1, w2⟩
      · rw [tkF c h h'] at h3; cases h3
  · intro c h3
    by_cases h : fs c = eB
    · rw [tkE c h] at h3; exact absurd rfl h3
    · by_cases h' : way = 0 ∧ mk c = false
      · rw [tkC c h h'] at h3; exact absurd rfl h3
      · refine { f := h, lt := ?_, kn := ?_, held := ?_, held0 := ?_, run := ?_ }
        · exact Nat.lt_of_not_le fun hc => h (hfs.out c hc)
        · rw [tkF c h h']; intro a ha; cases ha
        · rw [tkF c h h']; intro a l e; cases e
        · rw [tkF c h h']; intro _; rfl
        · rw [tkF c h h']; intro e; cases e
  · intro c; rw [hwt c]; exact ⟨Int.le_refl _, fun e => absurd e (by decide)⟩
  · intro c
    refine ⟨1, ?_⟩
    show (if 0 ≤ (c : Int) then (newP fs k way mk).wts (c : Int).toNat else -1) = -1
    rw [if_pos (by omega), Int.toNat_natCast]
    exact hwt c
  · intro c hs h0
    have hs : (decide ((k.last c).f = fs c) && !(k.last c).v.eqB cyc) = true := hs
    simp only [Bool.and_eq_true, decide_eq_true_eq, Bool.not_eq_true'] at hs
    refine (hk.good c ?_ ?_).1
    · rw [← hk.f c, hs.1]; exact h0
    · intro e; rw [e, eqB_self] at hs; cases hs.2
  · intro c h3 h
    have h : fs c ≠ eB := h
    by_cases h' : way = 0 ∧ mk c = false
    · exact .inr (.inl h')
    · rw [tkF c h h'] at h3; cases h3
  · intro c h3 h'
    by_cases h : fs c = eB
    · rw [tkE c h] at h3; exact h3 rfl
    · rw [tkC c h h'] at h3; exact h3 rfl
  · intro c a _
    refine ⟨fun h => (by cases h), ?_, ?_⟩
    · by_cases h : fs c = eB
      · rw [tkE c h]; decide
      · by_cases h' : way = 0 ∧ mk c = false
        · rw [tkC c h h']; show 3 ≠ 2; decide
        · rw [tkF c h h']; decide
    · by_cases h : fs c = eB
      · rw [tkE c h]; intro e; cases e
      · by_cases h' : way = 0 ∧ mk c = false
        · rw [tkC c h h']; intro e; cases e
        · rw [tkF c h h']; intro e; cases e
theorem new_wait (fs : Nat → ByteArray) (k : Kp) (way : Nat) (mk : Nat → Bool) (c : Nat) : waitB (newP fs k way mk) c = false := by
  have : ((newP fs k way mk).tk c).wt = -1 := by
    show (tk0 _ _ _ _ _).wt = _
    unfold tk0
    split
    · rfl
    · split <;> rfl
  unfold waitB
  rw [this]
  simp
structure Done (E : Env) (k : Kp) (fs : Nat → ByteArray) (way : Nat) (X : Nat → Ans → Prop) (k' : Kp) (bg : List Nat) : Prop where
  ex : ∃ mk r' cs, MarkOK fs k.last mk ∧ Inv E (fun c => (k'.last c).v) ⟨k.store, fs, k.last, way⟩ (fun c => way = 0 ∧ mk c = false) X r' cs ∧ (∀ c, (r'.tk c).st = 3) ∧ k'.last = (fun c => (r'.tk c).an) ∧ k'.store = r'.store ∧ bg = r'.bg
theorem work_ok {E : Env} (hW : RightW E) {fs0 fs : Nat → ByteArray} {k : Kp} (hk : KInv E fs0 k) (hfs : FsOK E fs) {order way : Nat} (ho : order < 3) (X : Nat → Ans → Prop)
    (hX : ∀ val mk, (∀ c, Val E.D fs c (val c)) → MarkOK fs k.last mk → XK E val ⟨k.store, fs, k.last, way⟩ (fun c => way = 0 ∧ mk c = false) X) :
    ∃ k' bg, WorkP E k fs order way k' bg ∧ KInv E fs k' ∧ (¬ workedP k fs → Done E k fs way X k' bg) := by
  by_cases hw : workedP k fs
  · refine ⟨k, [], .inl ⟨hw, rfl, rfl⟩, ?_, fun h => absurd hw h⟩
    have : fs = fs0 := by
      funext c
      by_cases hc : c < 48
      · rw [← hw c hc, hk.f c]
      · rw [hfs.out c (by omega), hk.out c (by omega)]
    rw [this]; exact hk
  · obtain ⟨val, hv⟩ := val_all E.D fs
    obtain ⟨mk, hm⟩ := mark_ex fs k.last
    have h0 := new_inv hk hfs hm way hv X
    have hX := hX val mk hv hm
    obtain ⟨r', ch', e1, ⟨cs, i1⟩, i2, i3, i4⟩ : ∃ r' ch', roundP E order (newP fs k way mk) k.ch r' ch' ∧ (∃ cs, Inv E val ⟨k.store, fs, k.last, way⟩ (fun c => way = 0 ∧ mk c = false) X r' cs) ∧ Frd (newP fs k way mk) r' ∧ ChOK ch' ∧ ∀ x, x < 48 → (r'.tk x).st = 3 := by
      have : order = 0 ∨ order = 1 ∨ order = 2 := by omega
      rcases this with h | h | h
      · obtain ⟨ch', r', a, b, c, d, e⟩ := chain_all hW hX hk.ch h0 (new_wait fs k way mk)
        exact ⟨r', ch', .inl ⟨h, a⟩, b, c, d, e⟩
      · obtain ⟨r', a, b, c, e⟩ := queue_all hW hX h0
        exact ⟨r', k.ch, .inr (.inl ⟨h, a, rfl⟩), b, c, hk.ch, e⟩
      · obtain ⟨r', a, b, c, e⟩ := sus_all hW hX 48 0 _ _ (by omega) h0 (new_wait fs k way mk)
        exact ⟨r', k.ch, .inr (.inr ⟨h, a, rfl⟩), b, c, hk.ch, fun x hx => e x (by omega) (by omega)⟩
    have hfs' : r'.fs = fs := i2.fs
    have hall : ∀ x, (r'.tk x).st = 3 := by
      intro x
      by_cases hx : x < 48
      · exact i4 x hx
      · refine i2.done x ?_
        show (tk0 _ _ _ _ _).st = 3
        unfold tk0
        rw [if_pos (hfs.out x (by omega))]
    have hval : (fun c => (r'.tk c).an.v) = val := by
      funext c; exact (i1.sett c (hall c)).v
    refine ⟨⟨fun c => (r'.tk c).an, ch', r'.store⟩, r'.bg, .inr ⟨hw, mk, r', ch', hm, e1, rfl, rfl⟩, ?_, fun _ => ⟨mk, r', cs, hm, ?_, hall, rfl, rfl, rfl⟩⟩
    · refine { fit := hfs.fit, out := hfs.out, f := ?_, v := ?_, none := ?_, good := ?_, ch := i3, sw := i1.sw, sto := fun a ha => (i1.stoOK a ha).1 }
      · intro c; rw [← hfs']; exact (i1.sett c (hall c)).f
      · intro c
        show Val E.D fs c (r'.tk c).an.v
        rw [(i1.sett c (hall c)).v]; exact hv c
      · intro c h; rw [← hfs'] at h; exact (i1.sett c (hall c)).none h
      · intro c h hc
        have hc : (r'.tk c).an.v ≠ cyc := hc
        rw [(i1.sett c (hall c)).v] at hc
        rw [← hfs'] at h
        show VA E (r'.tk c).an ∧ Hold (fun c => (r'.tk c).an.v) (r'.tk c).an.rs
        rw [hval]
        exact (i1.sett c (hall c)).good h hc
    · show Inv E (fun c => (r'.tk c).an.v) _ _ X r' cs
      rw [hval]; exact i1
end Go.Proofs.YtlpmmmmniojflaaGreatDoor
