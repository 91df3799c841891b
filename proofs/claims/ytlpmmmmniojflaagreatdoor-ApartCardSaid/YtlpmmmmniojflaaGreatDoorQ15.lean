/- Texts put together. -/
import Derived.Test.YtlpmmmmniojflaaGreatDoorQ08
import Derived.Test.YtlpmmmmniojflaaGreatDoorQ09
import Derived.Deep.RegionWith
/- Plain mathematics: what stays true of a machine as it goes: its stack is no longer than its place; jumps go ahead. -/
set_option linter.unusedVariables false
set_option linter.unusedSimpArgs false
namespace Go.Proofs.YtlpmmmmniojflaaGreatDoor
structure InsOK (i : Ins) (p hi : Nat) : Prop where
  op : i.op ≤ 16
  v : OKV i.v
  cell : i.cell < 48
  to : i.op = 13 ∨ i.op = 14 ∨ i.op = 15 → p < i.to
  hi : i.to ≤ hi
def SegOK (off : Nat) (seg : List Ins) (hi : Nat) : Prop := ∀ (j : Nat) (i : Ins), seg[j]? = some i → InsOK i (off + j) hi
theorem SegOK.mono {off hi hi' : Nat} {seg : List Ins} (h : SegOK off seg hi) (hh : hi ≤ hi') : SegOK off seg hi' := fun j i hj => by
  have := h j i hj
  exact ⟨this.op, this.v, this.cell, this.to, Nat.le_trans this.hi hh⟩
theorem segOK_nil (off hi : Nat) : SegOK off [] hi := fun j i hj => by simp at hj
theorem segOK_cons {off hi : Nat} {i : Ins} {l : List Ins} (h : InsOK i off hi) (hl : SegOK (off + 1) l hi) : SegOK off (i :: l) hi := fun j x hj => by
  cases j with
  | zero => simp at hj; subst hj; exact h
  | succ j => rw [List.getElem?_cons_succ] at hj; have := hl j x hj; rw [show off + (j + 1) = off + 1 + j by omega]; exact this
theorem segOK_app {off hi : Nat} {a b : List Ins} (ha : SegOK off a hi) (hb : SegOK (off + a.length) b hi) : SegOK off (a ++ b) hi := fun j x hj => by
  by_cases h : j < a.length
  · rw [List.getElem?_append_left h] at hj; exact ha j x hj
  · rw [List.getElem?_append_right (by omega)] at hj
    have := hb _ x hj
    rw [show off + a.length + (j - a.length) = off + j by omega] at this; exact this
theorem insOK_put {v : V} (hv : OKV v) (p hi : Nat) : InsOK (iPut v) p hi := ⟨by show 0 ≤ 16; decide, hv, by show 0 < 48; decide, fun h => by simp [iPut] at h, Nat.zero_le _⟩
theorem insOK_op {op : Nat} (h : op ≤ 12 ∨ op = 16) (p hi : Nat) : InsOK (iOp op) p hi := ⟨by show op ≤ 16; omega, okv_none, by show 0 < 48; decide, fun e => by have : op = 13 ∨ op = 14 ∨ op = 15 := e; omega, Nat.zero_le _⟩
theorem insOK_read {op c : Nat} (h : op ≤ 2) (hc : c < 48) (p hi : Nat) : InsOK (iRead op c) p hi := ⟨by show op ≤ 16; omega, okv_none, hc, fun e => by have : op = 13 ∨ op = 14 ∨ op = 15 := e; omega, Nat.zero_le _⟩
theorem insOK_to {op to p hi : Nat} (h : op ≤ 16) (h1 : p < to) (h2 : to ≤ hi) : InsOK (iTo op to) p hi := ⟨h, okv_none, by show 0 < 48; decide, fun _ => h1, h2⟩
theorem segOK_each {o1 o2 : Nat} (h1 : o1 ≤ 2) (h2 : o2 ≤ 12) (hi : Nat) : ∀ (l : List Nat) (off : Nat), (∀ c ∈ l, c < 48) → SegOK off (eachI o1 o2 l) hi
  | [], off, _ => segOK_nil _ _
  | c :: l, off, hl => by
    show SegOK off (iRead o1 c :: iOp o2 :: eachI o1 o2 l) hi
    exact segOK_cons (insOK_read h1 (hl c List.mem_cons_self) _ _) (segOK_cons (insOK_op (.inl h2) _ _) (segOK_each h1 h2 hi l _ (fun c hc => hl c (List.mem_cons_of_mem _ hc))))
theorem eachI_len (o1 o2 : Nat) : ∀ (l : List Nat), (eachI o1 o2 l).length = 2 * l.length
  | [] => rfl
  | c :: l => by
    show (iRead o1 c :: iOp o2 :: eachI o1 o2 l).length = _
    simp only [List.length_cons, eachI_len o1 o2 l]; omega
theorem flatMap_le {α β : Type} {f : α → List β} {m : Nat} : ∀ (l : List α), (∀ a ∈ l, (f a).length ≤ m) → (l.flatMap f).length ≤ l.length * m
  | [], _ => by simp
  | a :: l, h => by
    have h1 := h a List.mem_cons_self
    have h2 := flatMap_le l (fun x hx => h x (List.mem_cons_of_mem _ hx))
    rw [List.flatMap_cons, List.length_append, List.length_cons, Nat.succ_mul]; omega
theorem rangeL_len {a b : Nat} (ha : a < 48) (hb : b < 48) : (rangeL a b).length ≤ 48 := by
  unfold rangeL
  refine Nat.le_trans (flatMap_le (m := 6) _ (fun r _ => ?_)) ?_
  · simp only [List.length_map, List.length_range']; omega
  · simp only [List.length_range']; omega
theorem hk_tail (ts : List Tk) : ts.tail.length ≤ ts.length := by cases ts <;> simp
theorem hk_tail1 {ts : List Tk} (h : hk ts ≠ 0) : ts.tail.length + 1 = ts.length := by
  cases ts with
  | nil => exact absurd rfl h
  | cons a l => simp
theorem cmp_ok : ∀ (f tag off : Nat) (s : List Ins) (d : Beh) (ts : List Tk) (seg : List Ins) (d' : Beh) (rest : List Tk), tag < 7 → cmp f tag off s d ts = some (seg, d', rest) →
    (3 < tag → SegOK off s (off + s.length)) → (tag < 4 → s = []) → SegOK off seg (off + seg.length) ∧ rest.length ≤ ts.length ∧ seg.length + 100 * rest.length ≤ s.length + 100 * ts.length
  | 0, _, _, _, _, _, _, _, _, _, h, _, _ => by simp [cmp] at h
  | f + 1, tag, off, s, d, ts, seg, d', rest, htag, h, hp, hs => by
    have ih := cmp_ok f
    rw [cmp] at h
    by_cases h3 : tag < 3
    · rw [if_pos h3] at h
      obtain ⟨⟨s1, d1, r1⟩, hx, h⟩ := bind_some h
      obtain ⟨a1, a2, a3⟩ := ih (tag + 1) off [] _ ts s1 d1 r1 (by omega) hx (fun e => absurd e (by omega)) (fun _ => rfl)
      obtain ⟨b1, b2, b3⟩ := ih (tag + 4) off s1 d1 r1 seg d' rest (by omega) h (fun _ => a1) (fun e => absurd e (by omega))
      rw [hs (by omega)]
      simp only [List.length_nil] at a3 ⊢
      exact ⟨b1, by omega, by omega⟩
    rw [if_neg h3] at h
    by_cases t3 : tag = 3
    · rw [if_pos t3] at h
      have hs0 := hs (by omega)
      subst hs0
      have one : ∀ {i : Ins} {n : Nat}, InsOK i off (off + 1) → SegOK off [i] (off + [i].length) := fun h => segOK_cons h (segOK_nil _ _)
      have tl := hk_tail ts
      by_cases k23 : hk ts = 23
      · rw [if_pos k23] at h
        obtain ⟨⟨s1, d1, r1⟩, hx, h⟩ := bind_some h
        cases h
        obtain ⟨a1, a2, a3⟩ := ih 3 off [] _ _ s1 d1 r1 (by omega) hx (fun e => absurd e (by omega)) (fun _ => rfl)
        have ht := hk_tail1 (ts := ts) (by rw [k23]; decide)
        simp only [List.length_append, List.length_cons, List.length_nil] at a3 ⊢
        exact ⟨segOK_app (a1.mono (by omega)) (segOK_cons (insOK_op (.inl (by decide)) _ _) (segOK_nil _ _)), by omega, by omega⟩
      rw [if_neg k23] at h
      by_cases k1 : hk ts = 1
      · rw [if_pos k1] at h
        have ht := hk_tail1 (ts := ts) (by rw [k1]; decide)
        split at h
        · rename_i hv
          cases h
          exact ⟨segOK_cons (insOK_put (ok_i (by unfold I64; omega)) _ _) (segOK_nil _ _), tl, by simp only [List.length_cons, List.length_nil]; omega⟩
        · cases h
      rw [if_neg k1] at h
      by_cases k2 : hk ts = 2
      · rw [if_pos k2] at h
        have ht := hk_tail1 (ts := ts) (by rw [k2]; decide)
        split at h
        · rename_i hv
          cases h
          exact ⟨segOK_cons (insOK_put (ok_t (by simp only [ByteArray.size, List.size_toArray, List.length_dropLast, List.length_drop]; omega)) _ _) (segOK_nil _ _), tl, by simp only [List.length_cons, List.length_nil]; omega⟩
        · cases h
      rw [if_neg k2] at h
      by_cases k3 : hk ts = 3 ∨ hk ts = 4
      · rw [if_pos k3] at h
        have ht := hk_tail1 (ts := ts) (by intro e; rw [e] at k3; omega)
        cases h
        exact ⟨segOK_cons (insOK_put (ok_b _) _ _) (segOK_nil _ _), tl, by simp only [List.length_cons, List.length_nil]; omega⟩
      rw [if_neg k3] at h
      by_cases k5 : hk ts = 5
      · rw [if_pos k5] at h
        have ht := hk_tail1 (ts := ts) (by rw [k5]; decide)
        obtain ⟨c, hc, h⟩ := bind_some h
        cases h
        exact ⟨segOK_cons (insOK_read (by decide) (cellN_lt hc) _ _) (segOK_nil _ _), tl, by simp only [List.length_cons, List.length_nil]; omega⟩
      rw [if_neg k5] at h
      by_cases k12 : hk ts = 12
      · rw [if_pos k12] at h
        obtain ⟨⟨s1, d1, r1⟩, hx, h⟩ := bind_some h
        cases h
        obtain ⟨a1, a2, a3⟩ := ih 0 off [] _ _ _ _ r1 (by omega) hx (fun e => absurd e (by omega)) (fun _ => rfl)
        have h1 := hk_tail r1
        simp only [List.length_nil] at a3 ⊢
        exact ⟨a1, by omega, by omega⟩
      rw [if_neg k12] at h
      by_cases k6 : hk ts = 6
      · rw [if_pos k6] at h
        have ht := hk_tail1 (ts := ts) (by rw [k6]; decide)
        obtain ⟨⟨s1, d1, r1⟩, hx, h⟩ := bind_some h
        obtain ⟨⟨s2, d2, r2⟩, hy, h⟩ := bind_some h
        obtain ⟨⟨s3, d3, r3⟩, hz, h⟩ := bind_some h
        cases h
        dsimp only at hy hz ⊢
        obtain ⟨a1, a2, a3⟩ := ih 0 off [] _ _ s1 d1 r1 (by omega) hx (fun e => absurd e (by omega)) (fun _ => rfl)
        obtain ⟨b1, b2, b3⟩ := ih 0 _ [] _ _ s2 d2 r2 (by omega) hy (fun e => absurd e (by omega)) (fun _ => rfl)
        obtain ⟨c1, c2, c3⟩ := ih 0 _ [] _ _ s3 d3 r3 (by omega) hz (fun e => absurd e (by omega)) (fun _ => rfl)
        have t1 := hk_tail ts.tail
        have t2 := hk_tail r1
        have t4 := hk_tail r2
        have t5 := hk_tail r3
        simp only [List.length_nil] at a3 b3 c3 ⊢
        have el : off + (s1 ++ iTo 13 (off + s1.length + 1 + s2.length + 1) :: (s2 ++ iTo 14 (off + s1.length + 1 + s2.length + 1 + s3.length) :: s3)).length = off + s1.length + 1 + s2.length + 1 + s3.length := by simp; omega
        refine ⟨?_, by omega, ?_⟩
        · rw [el]
          exact segOK_app (a1.mono (by omega)) (segOK_cons (insOK_to (by decide) (by omega) (by omega)) (segOK_app (b1.mono (by omega)) (segOK_cons (insOK_to (by decide) (by omega) (by omega)) (c1.mono (by omega)))))
        · simp only [List.length_append, List.length_cons]; omega
      rw [if_neg k6] at h
      by_cases k7 : hk ts = 7
      · rw [if_pos k7] at h
        have ht := hk_tail1 (ts := ts) (by rw [k7]; decide)
        obtain ⟨⟨s1, d1, r1⟩, hx, h⟩ := bind_some h
        cases h
        obtain ⟨a1, a2, a3⟩ := ih 0 off [] _ _ s1 d1 r1 (by omega) hx (fun e => absurd e (by omega)) (fun _ => rfl)
        have t1 := hk_tail ts.tail
        have t2 := hk_tail r1
        simp only [List.length_append, List.length_cons, List.length_nil] at a3 ⊢
        exact ⟨segOK_app (a1.mono (by omega)) (segOK_cons (insOK_op (.inl (by decide)) _ _) (segOK_nil _ _)), by omega, by omega⟩
      rw [if_neg k7] at h
      by_cases k8 : hk ts = 8
      · rw [if_pos k8] at h
        have ht := hk_tail1 (ts := ts) (by rw [k8]; decide)
        obtain ⟨⟨s1, d1, r1⟩, hx, h⟩ := bind_some h
        cases h
        dsimp only at hx ⊢
        obtain ⟨a1, a2, a3⟩ := ih 0 (off + 1) [] _ _ s1 d1 r1 (by omega) hx (fun e => absurd e (by omega)) (fun _ => rfl)
        have t1 := hk_tail ts.tail
        have t2 := hk_tail r1
        simp only [List.length_append, List.length_cons, List.length_nil] at a3 ⊢
        exact ⟨segOK_cons (insOK_to (by decide) (by omega) (by omega)) (segOK_app (a1.mono (by omega)) (segOK_cons (insOK_op (.inr rfl) _ _) (segOK_nil _ _))), by omega, by omega⟩
      rw [if_neg k8] at h
      by_cases k9 : hk ts = 9 ∨ hk ts = 10
      · rw [if_pos k9] at h
        have ht := hk_tail1 (ts := ts) (by intro e; rw [e] at k9; omega)
        obtain ⟨a, ha, h⟩ := bind_some h
        obtain ⟨b, hb, h⟩ := bind_some h
        cases h
        have hl := rangeL_lt (cellN_lt ha) (cellN_lt hb)
        have hn := rangeL_len (cellN_lt ha) (cellN_lt hb)
        have t1 := hk_tail ts.tail
        have t2 := hk_tail ts.tail.tail
        have t3 := hk_tail ts.tail.tail.tail
        have t4 := hk_tail ts.tail.tail.tail.tail
        have t5 := hk_tail ts.tail.tail.tail.tail.tail
        refine ⟨?_, by omega, ?_⟩
        · refine segOK_cons (insOK_put okv_zero _ _) ?_
          split
          · exact segOK_each (by decide) (by decide) _ _ _ hl
          · exact segOK_each (by decide) (by decide) _ _ _ hl
        · rw [List.length_cons]
          split <;> (rw [eachI_len]; simp only [List.length_nil]; omega)
      rw [if_neg k9] at h
      cases h
    rw [if_neg t3] at h
    by_cases hq : hk ts ∈ signs (tag - 4)
    · rw [if_pos hq] at h
      have ht := hk_tail1 (ts := ts) (by
        intro e; rw [e] at hq
        unfold signs at hq
        repeat' split at hq
        all_goals simp at hq)
      obtain ⟨⟨s1, d1, r1⟩, hx, h⟩ := bind_some h
      dsimp only at h
      obtain ⟨a1, a2, a3⟩ := ih (tag - 3) (off + s.length) [] _ _ s1 d1 r1 (by omega) hx (fun e => absurd e (by omega)) (fun _ => rfl)
      have so := signs_op hq
      obtain ⟨b1, b2, b3⟩ := ih tag off (s ++ (s1 ++ [iOp (signOp (hk ts))])) _ r1 seg d' rest htag h (fun _ => by
        have hp' := hp (by omega)
        simp only [List.length_append, List.length_cons, List.length_nil]
        exact segOK_app (hp'.mono (by omega)) (segOK_app (a1.mono (by omega)) (segOK_cons (insOK_op (.inl (by omega)) _ _) (segOK_nil _ _)))) (fun e => absurd e (by omega))
      simp only [List.length_append, List.length_cons, List.length_nil] at a3 b3
      exact ⟨b1, by omega, by omega⟩
    · rw [if_neg hq] at h
      cases h
      exact ⟨hp (by omega), Nat.le_refl _, Nat.le_refl _⟩
structure MI (m : Mc) : Prop where
  code : SegOK 0 m.code m.code.length
  small : m.code.length ≤ 90000
  at' : m.at' ≤ m.code.length
  len : m.vals.length ≤ m.at'
  vals : ∀ v ∈ m.vals, OKV v
  gd : ∀ g ∈ m.gd, g.2 < g.1 ∧ g.1 ≤ m.code.length
  gl : m.gd.length ≤ m.at'
  gi : ∀ (j : Nat) (g : Nat × Nat), m.gd[j]? = some g → j < g.1
theorem MI.ins {m : Mc} (h : MI m) {i : Ins} (hi : m.code[m.at']? = some i) : InsOK i m.at' m.code.length ∧ m.at' < m.code.length := by
  have := h.code m.at' i hi
  rw [Nat.zero_add] at this
  exact ⟨this, (List.getElem?_eq_some_iff.1 hi).1⟩
theorem last_split {α : Type} {l : List α} {y : α} (h : l.getLast? = some y) : l = l.dropLast ++ [y] := by
  rw [List.getLast?_eq_some_iff] at h
  obtain ⟨a, rfl⟩ := h
  simp
theorem mem_dropLast {α : Type} {l : List α} {y : α} (h : y ∈ l.dropLast) : y ∈ l := (List.dropLast_sublist l).subset h
theorem drop_get {α : Type} {l : List α} {j : Nat} {y : α} (h : l.dropLast[j]? = some y) : l[j]? = some y := by
  rw [List.getElem?_dropLast] at h
  split at h
  · exact h
  · cases h
theorem MI.step {m m' : Mc} {i : Ins} {o : Option Nd} (h : MI m) (hi : m.code[m.at']? = some i) (hs : stepM m i = some (m', o)) : MI m' ∧ m'.code = m.code ∧ (o ≠ none → m'.vals.length < m'.at') ∧ (∀ nd, o = some nd → nd.c < 48) := by
  obtain ⟨hI, hlt⟩ := h.ins hi
  have hl := h.len
  have hg := h.gl
  unfold stepM at hs
  have one : ∀ {l : List V} {v : V}, (∀ x ∈ l, x ∈ m.vals) → OKV v → ∀ x ∈ l ++ [v], OKV x := by
    intro l v h1 h2 x hx
    rcases List.mem_append.1 hx with hx | hx
    · exact h.vals x (h1 x hx)
    · rw [List.mem_singleton] at hx; subst hx; exact h2
  by_cases e0 : i.op = 0
  · rw [if_pos e0] at hs
    cases hs
    exact ⟨{ code := h.code, small := h.small, at' := hlt, len := by simp [Mc.push]; omega, vals := one (fun x hx => hx) hI.v, gd := h.gd, gl := by simp [Mc.push]; omega, gi := h.gi }, rfl, fun e => absurd rfl e, fun nd e => by cases e⟩
  rw [if_neg e0] at hs
  by_cases e1 : i.op = 1 ∨ i.op = 2
  · rw [if_pos e1] at hs
    cases hs
    exact ⟨{ code := h.code, small := h.small, at' := hlt, len := by simp; omega, vals := h.vals, gd := h.gd, gl := by simp; omega, gi := h.gi }, rfl, fun _ => by simp; omega, fun nd e => by cases e; exact hI.cell⟩
  rw [if_neg e1] at hs
  by_cases e14 : i.op = 14
  · rw [if_pos e14] at hs
    cases hs
    have := hI.to (.inr (.inl e14))
    exact ⟨{ code := h.code, small := h.small, at' := hI.hi, len := by simp; omega, vals := h.vals, gd := h.gd, gl := by simp; omega, gi := h.gi }, rfl, fun e => absurd rfl e, fun nd e => by cases e⟩
  rw [if_neg e14] at hs
  by_cases e15 : i.op = 15
  · rw [if_pos e15] at hs
    cases hs
    have := hI.to (.inr (.inr e15))
    refine ⟨{ code := h.code, small := h.small, at' := hlt, len := by simp; omega, vals := h.vals, gd := ?_, gl := by simp; omega, gi := ?_ }, rfl, fun e => absurd rfl e, fun nd e => by cases e⟩
    · intro g hgm
      rcases List.mem_append.1 hgm with hgm | hgm
      · exact h.gd g hgm
      · rw [List.mem_singleton] at hgm; subst hgm; exact ⟨by simp; omega, hI.hi⟩
    · intro j g hj
      have hj : (m.gd ++ [(i.to, m.vals.length)])[j]? = some g := hj
      by_cases hjl : j < m.gd.length
      · rw [List.getElem?_append_left hjl] at hj; exact h.gi j g hj
      · have hj2 := (List.getElem?_eq_some_iff.1 hj).1
        simp only [List.length_append, List.length_singleton] at hj2
        have : j = m.gd.length := by omega
        subst this
        simp at hj
        subst hj
        simp only
        omega
  rw [if_neg e15] at hs
  cases hy : m.vals.getLast? with
  | none => rw [hy] at hs; cases hs
  | some y =>
  rw [hy] at hs
  dsimp only at hs
  have hys := last_split hy
  have hdl : m.vals.length = m.vals.dropLast.length + 1 := by
    have := congrArg List.length hys
    simpa using this
  have hsub : ∀ x ∈ m.vals.dropLast, x ∈ m.vals := fun x hx => mem_dropLast hx
  have mk1 : ∀ {v : V}, OKV v → MI ⟨m.code, m.at' + 1, m.vals.dropLast ++ [v], m.gd⟩ := fun hv =>
    { code := h.code, small := h.small, at' := hlt, len := by simp only [List.length_append, List.length_singleton]; omega, vals := one hsub hv, gd := h.gd, gl := by simp; omega, gi := h.gi }
  have mk0 : ∀ {p : Nat}, m.at' < p → p ≤ m.code.length → MI ⟨m.code, p, m.vals.dropLast, m.gd⟩ := fun h1 h2 =>
    { code := h.code, small := h.small, at' := h2, len := by simp only; omega, vals := fun x hx => h.vals x (hsub x hx), gd := h.gd, gl := by simp only; omega, gi := h.gi }
  by_cases e3 : i.op = 3
  · rw [if_pos e3] at hs
    by_cases y3 : y.k ≠ 3
    · rw [if_pos y3] at hs
      cases hs; exact ⟨mk1 ok_e4, rfl, fun e => absurd rfl e, fun nd e => by cases e⟩
    · rw [if_neg y3] at hs
      cases hc : cellN y.s.data.toList with
      | none =>
        rw [hc] at hs
        cases hs; exact ⟨mk1 ok_e3, rfl, fun e => absurd rfl e, fun nd e => by cases e⟩
      | some c =>
        rw [hc] at hs
        cases hs
        exact ⟨mk0 (by omega) hlt, rfl, fun _ => by simp only; omega, fun nd e => by cases e; exact cellN_lt hc⟩
  rw [if_neg e3] at hs
  by_cases e4 : i.op = 4
  · rw [if_pos e4] at hs
    cases hs; exact ⟨mk1 (ok_neg _), rfl, fun e => absurd rfl e, fun nd e => by cases e⟩
  rw [if_neg e4] at hs
  by_cases e13 : i.op = 13
  · rw [if_pos e13] at hs
    by_cases y2 : y.k ≠ 2
    · rw [if_pos y2] at hs
      cases hs; exact ⟨mk1 ok_e4, rfl, fun e => absurd rfl e, fun nd e => by cases e⟩
    · rw [if_neg y2] at hs
      have := hI.to (.inl e13)
      have := hI.hi
      cases hs
      refine ⟨mk0 ?_ ?_, rfl, fun e => absurd rfl e, fun nd e => by cases e⟩
      · split <;> omega
      · split <;> omega
  rw [if_neg e13] at hs
  by_cases e16 : i.op = 16
  · rw [if_pos e16] at hs
    by_cases g0 : m.gd = []
    · rw [if_pos g0] at hs; cases hs
    · rw [if_neg g0] at hs
      cases hs
      refine ⟨{ code := h.code, small := h.small, at' := hlt, len := by simp only [List.length_append, List.length_singleton]; omega, vals := one hsub (ok_b _), gd := fun g hg => h.gd g (mem_dropLast hg), gl := by simp; omega, gi := fun j g hj => h.gi j g (drop_get hj) }, rfl, fun e => absurd rfl e, fun nd e => by cases e⟩
  rw [if_neg e16] at hs
  by_cases e12 : i.op = 12 ∧ y.k ≠ 1
  · rw [if_pos e12] at hs
    cases hs; exact ⟨mk0 (by omega) hlt, rfl, fun e => absurd rfl e, fun nd e => by cases e⟩
  rw [if_neg e12] at hs
  cases hx : m.vals.dropLast.getLast? with
  | none => rw [hx] at hs; cases hs
  | some x =>
    rw [hx] at hs
    have hxs := last_split hx
    have hdl2 : m.vals.dropLast.length = m.vals.dropLast.dropLast.length + 1 := by
      have := congrArg List.length hxs
      simpa using this
    cases hs
    refine ⟨{ code := h.code, small := h.small, at' := hlt, len := by simp only [List.length_append, List.length_singleton]; omega, vals := one (fun x hx => hsub x (mem_dropLast hx)) ?_, gd := h.gd, gl := by simp; omega, gi := h.gi }, rfl, fun e => absurd rfl e, fun nd e => by cases e⟩
    split
    · exact ok_add _ _
    · exact ok_comb _ _ _
theorem MI.rescue {m : Mc} {g : Nat × Nat} (h : MI m) (hg : m.gd.getLast? = some g) (hl : g.2 ≤ m.vals.length) : MI ⟨m.code, g.1, m.vals.take g.2 ++ [vB true], m.gd.dropLast⟩ := by
  have := h.gd g (List.mem_of_getLast? hg)
  have hj : m.gd.length - 1 < g.1 := by
    refine h.gi _ g ?_
    rw [List.getLast?_eq_getElem?] at hg; exact hg
  refine { code := h.code, small := h.small, at' := this.2, len := by simp; omega, vals := ?_, gd := fun x hx => h.gd x (mem_dropLast hx), gl := by simp only [List.length_dropLast]; omega, gi := fun j g hj => h.gi j g (drop_get hj) }
  intro x hx
  rcases List.mem_append.1 hx with hx | hx
  · exact h.vals x (List.mem_of_mem_take hx)
  · rw [List.mem_singleton] at hx; subst hx; exact ok_b _
theorem MI.push {m : Mc} (h : MI m) (hl : m.vals.length < m.at') {v : V} (hv : OKV v) : MI (m.push v) :=
  { code := h.code, small := h.small, at' := h.at', len := by simp [Mc.push]; omega, gd := h.gd, gl := h.gl, gi := h.gi, vals := by
      intro x hx
      rcases List.mem_append.1 hx with hx | hx
      · exact h.vals x hx
      · rw [List.mem_singleton] at hx; subst hx; exact hv }
end Go.Proofs.YtlpmmmmniojflaaGreatDoor
/- Values, walked: Negate, Divide, Join, Equal, Less. -/
set_option linter.unusedVariables false
set_option linter.unusedSimpArgs false
namespace Go.Proofs.YtlpmmmmniojflaaGreatDoor
open Go.RowKit
theorem box3 {W W' : World} {q : Nat} {a b c : Value} {t : TypeId} (hb : W'.heap[q]? = W.heap[q]?) (h : W.heap[q]? = some (.cells #[a, b, c] t (0, 0))) : W'.cell? ⟨q, 0, none⟩ = some a ∧ W'.cell? ⟨q, 1, none⟩ = some b ∧ W'.cell? ⟨q, 2, none⟩ = some c ∧ W'.frozen? ⟨q, 0, none⟩ = false ∧ W'.frozen? ⟨q, 1, none⟩ = false ∧ W'.frozen? ⟨q, 2, none⟩ = false := by
  rw [h] at hb
  exact ⟨cell_of_row W' q 0 _ t (0, 0) hb, cell_of_row W' q 1 _ t (0, 0) hb, cell_of_row W' q 2 _ t (0, 0) hb, by simp [World.frozen?, hb], by simp [World.frozen?, hb], by simp [World.frozen?, hb]⟩
theorem b3o (w : World) (a b c : Value) (t : TypeId) (z : Obj) : ((w.alloc (.cells #[a, b, c] t)).alloc z).drew.heap[w.heap.size]? = some (.cells #[a, b, c] t (0, 0)) := by
  show ((w.alloc (.cells #[a, b, c] t)).alloc z).heap[w.heap.size]? = _
  rw [Below.heap_alloc _ _ _ (by simp)]; exact heap_alloc_new w _
theorem b3n (w : World) (a b c : Value) (t : TypeId) (z : Obj) : ((w.alloc z).alloc (.cells #[a, b, c] t)).drew.heap[w.heap.size + 1]? = some (.cells #[a, b, c] t (0, 0)) := by
  have := heap_alloc_new (w.alloc z) (.cells #[a, b, c] t)
  rw [show (w.alloc z).heap.size = w.heap.size + 1 by simp] at this
  exact this
set_option maxHeartbeats 2000000 in
theorem neg_w (a : V) (ha : I64 a.n) : Gives 222 #[vV a] (vV (vNeg a)) := by
  intro w
  have HS : Hid (Gives 238 #[vV (vI 0), vV a] (vV (vNeg a))) := sub_w (vI 0) a (by unfold I64 vI; simp) ha
  obtain ⟨r, hr⟩ : ∃ r, vNeg a = r := ⟨_, rfl⟩
  rw [hr] at HS ⊢
  clear hr ha
  have HI : Hid (Gives 204 #[.int .i64 0] (vV (vI 0))) := int_w 0
  obtain ⟨z, hz⟩ : ∃ z, vV (vI 0) = z := ⟨_, rfl⟩
  rw [hz] at HS HI
  clear hz
  unfold vV at HS ⊢
  go_enter Tryz.func222, Tryz.ntmps222
  go_wp2_with fail
  go_region_with (first
    | (go_at_call 204; refine (HI.out _).mono ?_; rintro e w1 ⟨rfl, hb1⟩; obtain ⟨p0, p1, p2, _⟩ := box3 (hb1.block w.heap.size (by simp; omega)) (b3o w _ _ _ _ _); obtain ⟨r0, r1, r2, r3, r4, r5⟩ := box3 (hb1.block (w.heap.size + 1) (by simp)) (b3n w _ _ _ _ _))
    | (go_at_call 238; refine (HS.out _).mono ?_; rintro e w2 ⟨rfl, hb2⟩; obtain ⟨u0, u1, u2, u3, u4, u5⟩ := box3 (hb2.block (w.heap.size + 1) (by have := hb1.size; simp at this ⊢; omega)) (by rw [hb1.block (w.heap.size + 1) (by simp)]; exact b3n w _ _ _ _ _)))
  all_goals
    have HB : Hid (Below w.heap.size w w2) := (((bl2 w _ _).drew).trans (hb1.mono (by simp; omega))).trans (hb2.mono (by have := hb1.size; simp at this; omega))
    have HR : Hid (w2.heap[w.heap.size + 1]? = some (.cells #[.int .i64 0, .int .i64 0, .string ⟨#[]⟩] 52 (0, 0))) := by
      unfold Hid
      rw [hb2.block (w.heap.size + 1) (by have := hb1.size; simp at this ⊢; omega), hb1.block (w.heap.size + 1) (by simp)]; exact b3n w _ _ _ _ _
    clear hb1 hb2
    go_wp2_with fail
    refine bodyPost_ret (results_cell1 rfl _ _ _ ⟨w.heap.size + 1, 0, none⟩ _ _ rfl (load52 (rset (rset (rset HR.out))) rfl)) rfl ?_
    exact ⟨rfl, by repeat (first | exact HB.out | refine Below.setCell ?_ (by dsimp only; omega) _)⟩
theorem ba_list {a b : ByteArray} (h : a.toList = b.toList) : a = b := by
  rw [ByteArray.toList_eq, ByteArray.toList_eq] at h
  cases a; cases b
  simp only at h
  rw [Array.toList_inj] at h
  rw [h]
set_option maxHeartbeats 2000000 in
theorem eq_w (a b : V) : Gives 243 #[vV a, vV b] (vV (vEq a b)) := by
  intro w
  by_cases h : a.k = b.k
  · have h' : (a.k != b.k) = false := by simpa using h
    by_cases hn : a.n = b.n
    · by_cases hs : a.s = b.s
      · have HF : Hid (vEq a b = vB true) := by unfold Hid vEq; rw [if_pos h, eqB_iff.2 (by cases a; cases b; simp_all)]
        unfold vV
        go_enter Tryz.func243, Tryz.ntmps243
        go_wp2
        go_returns
        rw [HF.out]
        exact ⟨rfl, by repeat (first | exact Below.refl _ _ | refine bal ?_ _)⟩
      · have hs' : ¬ a.s.toList = b.s.toList := fun e => hs (ba_list e)
        have HF : Hid (vEq a b = vB false) := by unfold Hid vEq; rw [if_pos h, eqB_ne (fun e => hs (by rw [e]))]
        unfold vV
        go_enter Tryz.func243, Tryz.ntmps243
        go_wp2
        go_returns
        rw [HF.out]
        exact ⟨rfl, by repeat (first | exact Below.refl _ _ | refine bal ?_ _)⟩
    · have HF : Hid (vEq a b = vB false) := by unfold Hid vEq; rw [if_pos h, eqB_ne (fun e => hn (by rw [e]))]
      unfold vV
      go_enter Tryz.func243, Tryz.ntmps243
      go_wp2
      go_returns
      rw [HF.out]
      exact ⟨rfl, by repeat (first | exact Below.refl _ _ | refine bal ?_ _)⟩
  · have h' : (a.k != b.k) = true := by simpa using h
    have HF : Hid (vEq a b = vE 4) := by unfold Hid vEq; rw [if_neg h]
    clear h
    unfold vV
    go_enter Tryz.func243, Tryz.ntmps243
    go_wp2
    go_returns
    rw [HF.out]
    exact ⟨rfl, by repeat (first | exact Below.refl _ _ | refine bal ?_ _)⟩
end Go.Proofs.YtlpmmmmniojflaaGreatDoor
