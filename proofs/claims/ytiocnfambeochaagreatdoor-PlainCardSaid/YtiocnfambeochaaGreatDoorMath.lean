/- Math: texts put together. -/
import Derived.WalkKit
import Derived.Lib.ParseIntB
import Derived.Lib.IndexLaws
import Derived.Lib.IndexBytes
/- Plain mathematics of formulas: bytes, tokens, the parser's steps. No program stands in it. -/
namespace Go.Proofs.YtiocnfambeochaaGreatDoor

def dgB (c : Int) : Bool := decide (48 ≤ c ∧ c ≤ 57)
def ltB (c : Int) : Bool := decide ((65 ≤ c ∧ c ≤ 90) ∨ (97 ≤ c ∧ c ≤ 122))
def pbB (c : Int) : Bool := decide (32 ≤ c ∧ c ≤ 126 ∧ c ≠ 34)
def ldB (c : Int) : Bool := ltB c || dgB c

def sgnI (c : Int) : Int :=
  if c = 40 then 12 else if c = 41 then 13 else if c = 44 then 14 else if c = 58 then 15 else if c = 43 then 16 else if c = 45 then 17
  else if c = 42 then 18 else if c = 47 then 19 else if c = 38 then 20 else if c = 61 then 21 else if c = 60 then 22 else 0

/-- How many bytes at the head are such. -/
def spn (p : Int → Bool) : List UInt8 → Nat
  | [] => 0
  | c :: r => if p (c.toNat : Int) = true then spn p r + 1 else 0

theorem spn_le (p : Int → Bool) (l : List UInt8) : spn p l ≤ l.length := by
  induction l with
  | nil => simp [spn]
  | cons c r ih => simp only [spn, List.length_cons]; split <;> omega

/-- One letter A to Z, one digit or more. -/
def celB (l : List UInt8) : Bool :=
  match l with
  | [] => false
  | c :: r => decide (65 ≤ (c.toNat : Int) ∧ (c.toNat : Int) ≤ 90) && (decide (1 ≤ r.length) && decide (spn dgB r = r.length))

def wrdI (l : List UInt8) : Int :=
  if l = [116, 114, 117, 101] then 3 else if l = [102, 97, 108, 115, 101] then 4 else if l = [105, 102] then 6 else if l = [97, 116] then 7
  else if l = [98, 97, 100] then 8 else if l = [115, 117, 109] then 9 else if l = [99, 111, 117, 110, 116] then 10 else if celB l = true then 5 else 11

/-- What a row of digits is worth. -/
def valN (l : List UInt8) : Nat := l.foldl (fun n c => 10 * n + (c.toNat - 48)) 0

def numI (l : List UInt8) : Int × Nat :=
  if 19 < spn dgB l then (0, 0) else if 9223372036854775807 < valN (l.take (spn dgB l)) then (0, 0) else (1, spn dgB l)
def wdI (l : List UInt8) : Int × Nat :=
  if 5 < spn ldB l then (0, 0) else (wrdI (l.take (spn ldB l)), spn ldB l)
def qtI (r : List UInt8) : Int × Nat :=
  if r[spn pbB r]? = some 34 ∧ spn pbB r ≤ 20 then (2, spn pbB r + 2) else (0, 0)
def qtT (l : List UInt8) : Int × Nat := qtI (l.drop 1)
/-- The kind (0: none) and the size of the token that a text begins with. -/
def tok1 (l : List UInt8) : Int × Nat :=
  match l with
  | [] => (0, 0)
  | c :: _ => if dgB (c.toNat : Int) = true then numI l else if ltB (c.toNat : Int) = true then wdI l else if c = 34 then qtT l else (sgnI (c.toNat : Int), 1)

theorem spn_take (p : Int → Bool) : ∀ l : List UInt8, ∀ c ∈ l.take (spn p l), p (c.toNat : Int) = true
  | [], c, h => by simp at h
  | a :: r, c, h => by
    unfold spn at h
    split at h
    · rw [List.take_succ_cons] at h
      rcases List.mem_cons.1 h with rfl | h
      · assumption
      · exact spn_take p r c h
    · simp at h

theorem spn_next (p : Int → Bool) : ∀ (l : List UInt8) (c : UInt8), l[spn p l]? = some c → p (c.toNat : Int) = false
  | [], c, h => by simp at h
  | a :: r, c, h => by
    unfold spn at h
    split at h
    · rw [List.getElem?_cons_succ] at h
      exact spn_next p r c h
    · simp only [List.getElem?_cons_zero, Option.some.injEq] at h
      subst h; exact Bool.eq_false_iff.2 ‹¬ _›

theorem fold_le : ∀ (l : List UInt8) (acc : Nat), acc * 10 ^ l.length ≤ l.foldl (fun n c => 10 * n + (c.toNat - 48)) acc
  | [], acc => by simp
  | c :: r, acc => by
    rw [List.foldl_cons, List.length_cons, Nat.pow_succ]
    refine Nat.le_trans ?_ (fold_le r _)
    have : acc * (10 ^ r.length * 10) = (10 * acc) * 10 ^ r.length := by rw [Nat.mul_comm (10 ^ r.length), ← Nat.mul_assoc, Nat.mul_comm acc 10]
    rw [this]
    exact Nat.mul_le_mul_right _ (by omega)

theorem parseM_digits : ∀ (l : List UInt8) (acc : Nat), (∀ c ∈ l, dgB (c.toNat : Int) = true) → (acc + 1) * 10 ^ l.length ≤ 10 ^ 19 →
    Lib.parseUintM (2 ^ 64 - 1) acc l = .ok (l.foldl (fun n c => 10 * n + (c.toNat - 48)) acc)
  | [], acc, _, _ => rfl
  | c :: r, acc, hd, hb => by
    have hc := hd c List.mem_cons_self
    simp only [dgB, decide_eq_true_eq] at hc
    rw [List.length_cons, Nat.pow_succ] at hb
    have e : (acc + 1) * (10 ^ r.length * 10) = (10 * acc + 10) * 10 ^ r.length := by
      rw [Nat.mul_comm (10 ^ r.length), ← Nat.mul_assoc]; congr 1; omega
    rw [e] at hb
    have h1 : 1 ≤ 10 ^ r.length := Nat.one_le_pow _ _ (by omega)
    have h2 : 10 * acc + 10 ≤ 10 ^ 19 := Nat.le_trans (Nat.le_mul_of_pos_right _ h1) hb
    have h19 : (10 : Nat) ^ 19 = 10000000000000000000 := by decide
    have h64 : (2 : Nat) ^ 64 - 1 = 18446744073709551615 := by decide
    rw [h19] at h2
    unfold Lib.parseUintM
    rw [if_pos (by omega), if_neg (by omega), if_neg (by rw [h64]; omega), List.foldl_cons, Nat.mul_comm acc 10]
    refine parseM_digits r _ (fun x hx => hd x (List.mem_cons_of_mem _ hx)) (Nat.le_trans ?_ hb)
    exact Nat.mul_le_mul_right _ (by omega)

theorem parse_digits (l : List UInt8) (h0 : l ≠ []) (hd : ∀ c ∈ l, dgB (c.toNat : Int) = true) (hl : l.length ≤ 19) :
    Lib.parseIntB 64 l = if 9223372036854775807 < valN l then .range else .ok (valN l : Int) := by
  match l, h0 with
  | c :: r, _ =>
    have hc := hd c List.mem_cons_self
    simp only [dgB, decide_eq_true_eq] at hc
    have hp := parseM_digits (c :: r) 0 hd (by
      rw [Nat.zero_add, Nat.one_mul]; exact Nat.pow_le_pow_right (by omega) hl)
    have hu : Lib.parseUintB 64 (if c.toNat = 43 ∨ c.toNat = 45 then r else c :: r) = .ok (valN (c :: r)) := by
      rw [if_neg (by omega)]
      unfold Lib.parseUintB
      rw [if_neg (by simp)]
      exact hp
    unfold Lib.parseIntB
    simp only [hu]
    have h63 : (2 : Nat) ^ (64 - 1) = 9223372036854775808 := by decide
    rw [h63]
    have hn : ¬ c.toNat = 45 := by omega
    by_cases hv : 9223372036854775807 < valN (c :: r)
    · rw [if_pos ⟨hn, by omega⟩, if_pos hv]
    · rw [if_neg (by omega), if_neg (by omega), if_neg hn, if_neg hv]

theorem qt_none (r : List UInt8) (h : Lib.indexByte r 34 = -1) : qtI r = (0, 0) := by
  unfold qtI; exact if_neg fun ⟨h1, _⟩ => Lib.indexByte_none h _ h1
theorem qt_long (r : List UInt8) (m : Nat) (h : Lib.indexByte r 34 = m) (hm : 20 < m) : qtI r = (0, 0) := by
  unfold qtI; exact if_neg fun ⟨h1, h2⟩ => (Lib.indexByte_some h).2 _ (by omega) h1
theorem qt_bad (r : List UInt8) (m : Nat) (h : Lib.indexByte r 34 = m) (hk : spn pbB r < m) : qtI r = (0, 0) := by
  unfold qtI; exact if_neg fun ⟨h1, _⟩ => (Lib.indexByte_some h).2 _ hk h1
theorem qt_ok (r : List UInt8) (m : Nat) (h : Lib.indexByte r 34 = m) (hm : m ≤ 20) (hk : spn pbB r = m) : qtI r = (2, m + 2) := by
  unfold qtI; rw [hk]; exact if_pos ⟨(Lib.indexByte_some h).1, hm⟩

theorem ret_bool {a b : Bool} (h : a = b) : Ending.returned (.bool a) = .returned (.bool b) := by rw [h]
theorem ret_int {k : IntKind} {a b : Int} (h : a = b) : Ending.returned (.int k a) = .returned (.int k b) := by rw [h]

end Go.Proofs.YtiocnfambeochaaGreatDoor

/- Plain mathematics of formulas, more: the tokens of a text. No program stands in it. -/
namespace Go.Proofs.YtiocnfambeochaaGreatDoor
theorem tok1_cons (c : UInt8) (r : List UInt8) : tok1 (c :: r) = if dgB (c.toNat : Int) = true then numI (c :: r) else if ltB (c.toNat : Int) = true then wdI (c :: r) else if c = 34 then qtT (c :: r) else (sgnI (c.toNat : Int), 1) := rfl

theorem tok1_size (l : List UInt8) (h : (tok1 l).1 ≠ 0) : 1 ≤ (tok1 l).2 ∧ (tok1 l).2 ≤ l.length := by
  match l with
  | [] => simp [tok1] at h
  | c :: r =>
    rw [tok1_cons] at h ⊢
    by_cases hd : dgB (c.toNat : Int) = true
    · rw [if_pos hd] at h ⊢
      have h1 : spn dgB (c :: r) = spn dgB r + 1 := by rw [spn, if_pos hd]
      have h2 := spn_le dgB (c :: r)
      unfold numI at h ⊢
      by_cases h3 : 19 < spn dgB (c :: r)
      · rw [if_pos h3] at h; simp at h
      · rw [if_neg h3] at h ⊢
        by_cases h4 : 9223372036854775807 < valN ((c :: r).take (spn dgB (c :: r)))
        · rw [if_pos h4] at h; simp at h
        · rw [if_neg h4]; exact ⟨by simp only; omega, h2⟩
    · rw [if_neg hd] at h ⊢
      by_cases hl : ltB (c.toNat : Int) = true
      · rw [if_pos hl] at h ⊢
        have h1 : spn ldB (c :: r) = spn ldB r + 1 := by rw [spn, if_pos (by simp [ldB, hl])]
        have h2 := spn_le ldB (c :: r)
        unfold wdI at h ⊢
        by_cases h3 : 5 < spn ldB (c :: r)
        · rw [if_pos h3] at h; simp at h
        · rw [if_neg h3]; exact ⟨by simp only; omega, h2⟩
      · rw [if_neg hl] at h ⊢
        by_cases hq : c = 34
        · rw [if_pos hq] at h ⊢
          unfold qtT qtI at h ⊢
          by_cases h3 : (List.drop 1 (c :: r))[spn pbB (List.drop 1 (c :: r))]? = some 34 ∧ spn pbB (List.drop 1 (c :: r)) ≤ 20
          · rw [if_pos h3]
            have h4 := (List.getElem?_eq_some_iff.1 h3.1).1
            simp only [List.drop_succ_cons, List.drop_zero, List.length_cons] at h4 ⊢
            omega
          · rw [if_neg h3] at h; simp at h
        · rw [if_neg hq]; simp

/-- A token: its kind, its text, its place. -/
structure Tk where
  k : Int
  x : List UInt8
  p : Nat
/-- The tokens of a text (so many steps at most), its first byte's place given; the place of a byte that begins none. -/
def scn : Nat → List UInt8 → Nat → List Tk × Option Nat
  | 0, _, _ => ([], none)
  | _ + 1, [], _ => ([], none)
  | n + 1, c :: r, p =>
    if c = 32 then scn n r (p + 1)
    else if (tok1 (c :: r)).1 = 0 then ([], some p)
    else (⟨(tok1 (c :: r)).1, (c :: r).take (tok1 (c :: r)).2, p⟩ :: (scn n ((c :: r).drop (tok1 (c :: r)).2) (p + (tok1 (c :: r)).2)).1,
          (scn n ((c :: r).drop (tok1 (c :: r)).2) (p + (tok1 (c :: r)).2)).2)
theorem scn_nil (n p : Nat) : scn n [] p = ([], none) := by cases n <;> rfl

theorem scn_tok (n : Nat) (l : List UInt8) (p : Nat) (c : UInt8) (hc : l.head? = some c) (hb : c ≠ 32) (h0 : (tok1 l).1 ≠ 0) :
    scn (n + 1) l p = (⟨(tok1 l).1, l.take (tok1 l).2, p⟩ :: (scn n (l.drop (tok1 l).2) (p + (tok1 l).2)).1, (scn n (l.drop (tok1 l).2) (p + (tok1 l).2)).2) := by
  match l, hc with
  | a :: r, hc =>
    simp only [List.head?_cons, Option.some.injEq] at hc
    subst hc
    rw [scn, if_neg hb, if_neg h0]

end Go.Proofs.YtiocnfambeochaaGreatDoor

/- Plain mathematics: values; what a formula does, as a function of what it has seen so far; what the cells of a sheet are worth. No program stands in it. -/
set_option linter.unusedVariables false
set_option linter.unusedSimpArgs false
namespace Go.Proofs.YtiocnfambeochaaGreatDoor

/-- A value: its kind, its number, its bytes. -/
structure V where
  k : Int
  n : Int
  s : ByteArray
/-- A cell that is read; a: a cell without a formula is seen as such. -/
structure Nd where
  c : Nat
  a : Bool
/-- A cell that was read, and what was seen. -/
structure Rd where
  nd : Nd
  w : V

def eB : ByteArray := ⟨#[]⟩
def vN : V := ⟨0, 0, eB⟩
def vI (n : Int) : V := ⟨1, n, eB⟩
def vB (b : Bool) : V := ⟨2, if b = true then 1 else 0, eB⟩
def vT (s : ByteArray) : V := ⟨3, 0, s⟩
def vE (n : Int) : V := ⟨4, n, eB⟩
def cyc : V := vE 5
def V.eqB (a b : V) : Bool := decide (a.k = b.k) && (decide (a.n = b.n) && decide (a.s = b.s))
theorem eqB_iff {a b : V} : a.eqB b = true ↔ a = b := by
  cases a; cases b; simp [V.eqB]
theorem eqB_self (a : V) : a.eqB a = true := eqB_iff.2 rfl
theorem eqB_ne {a b : V} (h : a ≠ b) : a.eqB b = false := by
  cases e : a.eqB b with
  | false => rfl
  | true => exact absurd (eqB_iff.1 e) h

/-- A number of 64 bits. -/
def I64 (n : Int) : Prop := -9223372036854775808 ≤ n ∧ n ≤ 9223372036854775807
/-- A value of a cell that does not hang on itself. -/
def OKV (v : V) : Prop := I64 v.n ∧ I64 v.k ∧ v ≠ cyc

/-- As a cell's value is seen by what reads it. -/
def see (nd : Nd) (v : V) : V := if v.k = 0 ∧ nd.a = false then vI 0 else v
theorem okv_zero : OKV (vI 0) := ⟨by unfold I64 vI; simp, by unfold I64 vI; simp, by unfold vI cyc vE; simp⟩
theorem okv_none : OKV vN := ⟨by unfold I64 vN; simp, by unfold I64 vN; simp, by unfold vN cyc vE; simp⟩
theorem okv_see {nd : Nd} {v : V} (h : OKV v) : OKV (see nd v) := by unfold see; split; exact okv_zero; exact h
theorem see_cyc (nd : Nd) : see nd cyc = cyc := by unfold see; rw [if_neg]; unfold cyc vE; simp

/-- What a formula does: behind so much seen, it is worth something, or reads a cell. -/
abbrev Beh := List V → Sum V Nd
def retA (v : V) : Beh := fun _ => .inl v
def askA (nd : Nd) (k : V → Beh) : Beh := fun h => match h with | [] => .inr nd | x :: l => k x l
def bindH (k : V → Beh) : List V → Beh → Sum V Nd
  | [], d => match d [] with | .inl v => k v [] | .inr nd => .inr nd
  | x :: l, d => match d [] with | .inl v => k v (x :: l) | .inr _ => bindH k l (fun l' => d (x :: l'))
def bindA (d : Beh) (k : V → Beh) : Beh := fun h => bindH k h d

theorem bind_ret (v : V) (k : V → Beh) : bindA (retA v) k = k v := by
  funext h; cases h <;> rfl
theorem bind_ask (nd : Nd) (f : V → Beh) (k : V → Beh) : bindA (askA nd f) k = askA nd (fun x => bindA (f x) k) := by
  funext h; cases h <;> rfl
theorem bindH_assoc (f g : V → Beh) : ∀ (h : List V) (d : Beh), bindH g h (bindA d f) = bindH (fun v => bindA (f v) g) h d
  | [], d => by
    unfold bindH
    show (match bindA d f [] with | .inl v => g v [] | .inr nd => .inr nd) = _
    unfold bindA bindH
    cases d [] with
    | inl v => rfl
    | inr nd => rfl
  | x :: l, d => by
    have ih := bindH_assoc f g l
    unfold bindH
    cases e : d [] with
    | inl v =>
      have e1 : ∀ l', bindA d f l' = f v l' := by
        intro l'; unfold bindA; cases l' <;> (unfold bindH; rw [e])
      have e2 : bindA d f = f v := funext e1
      rw [e2]
      show _ = bindH g (x :: l) (f v)
      rfl
    | inr nd =>
      have e1 : bindA d f [] = .inr nd := by unfold bindA bindH; rw [e]
      rw [e1]
      show bindH g l (fun l' => bindA d f (x :: l')) = bindH _ l (fun l' => d (x :: l'))
      have e2 : (fun l' => bindA d f (x :: l')) = bindA (fun l' => d (x :: l')) f := by
        funext l'; unfold bindA; rw [bindH]; rw [e]
      rw [e2]
      exact ih _
theorem bind_assoc (d : Beh) (f g : V → Beh) : bindA (bindA d f) g = bindA d (fun v => bindA (f v) g) := by
  funext h; exact bindH_assoc f g h d

/-- A formula reads so many cells of the sheet at most, and comes to a value that may be, if it sees such. -/
def ActN : Nat → Beh → Prop
  | 0, d => ∃ v, OKV v ∧ d [] = .inl v
  | n + 1, d => (∃ v, OKV v ∧ d [] = .inl v) ∨ ∃ nd : Nd, nd.c < 48 ∧ d [] = .inr nd ∧ ∀ x, OKV x → ActN n (fun l => d (x :: l))
def AOK (d : Beh) : Prop := ∃ n, ActN n d
theorem ActN.now {n : Nat} {d : Beh} (h : ActN n d) {v : V} (e : d [] = .inl v) : OKV v := by
  cases n with
  | zero => obtain ⟨u, h1, h2⟩ := h; rw [e] at h2; cases h2; exact h1
  | succ n =>
    rcases h with ⟨u, h1, h2⟩ | ⟨nd, _, h2, _⟩
    · rw [e] at h2; cases h2; exact h1
    · rw [e] at h2; cases h2
theorem ActN.next {n : Nat} {d : Beh} (h : ActN n d) {nd : Nd} (e : d [] = .inr nd) : nd.c < 48 ∧ ∃ m, n = m + 1 ∧ ∀ x, OKV x → ActN m (fun l => d (x :: l)) := by
  cases n with
  | zero => obtain ⟨u, h1, h2⟩ := h; rw [e] at h2; cases h2
  | succ n =>
    rcases h with ⟨u, h1, h2⟩ | ⟨nd', hc, h2, h3⟩
    · rw [e] at h2; cases h2
    · rw [e] at h2; cases h2; exact ⟨hc, n, rfl, h3⟩

/-- These cells are what the formula reads, one behind the other, by what was seen. -/
def Tr : Beh → List Rd → Prop
  | _, [] => True
  | d, r :: l => d [] = .inr r.nd ∧ Tr (fun h => d (r.w :: h)) l
def ws (l : List Rd) : List V := l.map Rd.w
theorem tr_app : ∀ (l : List Rd) (d : Beh) (r : Rd), Tr d l → d (ws l) = .inr r.nd → Tr d (l ++ [r])
  | [], d, r, _, h => ⟨h, trivial⟩
  | a :: l, d, r, ⟨h1, h2⟩, h => ⟨h1, tr_app l _ r h2 h⟩
theorem tr_take : ∀ (l : List Rd) (d : Beh) (i : Nat), Tr d l → Tr d (l.take i)
  | [], d, i, _ => by simp [Tr]
  | a :: l, d, 0, _ => trivial
  | a :: l, d, i + 1, ⟨h1, h2⟩ => ⟨h1, tr_take l _ i h2⟩
theorem tr_at : ∀ (l : List Rd) (d : Beh) (i : Nat) (r : Rd), Tr d l → l[i]? = some r → d (ws (l.take i)) = .inr r.nd
  | [], d, i, r, _, h => by simp at h
  | a :: l, d, 0, r, ⟨h1, _⟩, h => by simp at h; subst h; exact h1
  | a :: l, d, i + 1, r, ⟨_, h2⟩, h => by
    rw [List.getElem?_cons_succ] at h
    exact tr_at l _ i r h2 h
theorem tr_ok : ∀ (l : List Rd) (d : Beh) (n : Nat), ActN n d → Tr d l → (∀ r ∈ l, OKV r.w) → (∀ r ∈ l, r.nd.c < 48) ∧ ∃ m, ActN m (fun h => d (ws l ++ h))
  | [], d, n, h, _, _ => ⟨by simp, n, h⟩
  | a :: l, d, n, h, ⟨h1, h2⟩, ho => by
    obtain ⟨hc, m, rfl, hm⟩ := h.next h1
    obtain ⟨g1, m', g2⟩ := tr_ok l _ m (hm a.w (ho a List.mem_cons_self)) h2 (fun r hr => ho r (List.mem_cons_of_mem _ hr))
    refine ⟨fun r hr => ?_, m', g2⟩
    rcases List.mem_cons.1 hr with rfl | hr
    · exact hc
    · exact g1 r hr
/-- Two roads of one formula by the same values: the one is the other. -/
theorem tr_same : ∀ (l l' : List Rd) (d : Beh) (v v' : V), Tr d l → Tr d l' → d (ws l) = .inl v → d (ws l') = .inl v' →
    (∀ r ∈ l, ∀ r' ∈ l', r.nd = r'.nd → r.w = r'.w) → l = l' ∧ v = v'
  | [], [], d, v, v', _, _, h, h', _ => by rw [h] at h'; cases h'; exact ⟨rfl, rfl⟩
  | [], b :: l', d, v, v', _, ⟨g1, _⟩, h, _, _ => by
    have h : d [] = .inl v := h
    rw [h] at g1; cases g1
  | a :: l, [], d, v, v', ⟨g1, _⟩, _, _, h', _ => by
    have h' : d [] = .inl v' := h'
    rw [h'] at g1; cases g1
  | a :: l, b :: l', d, v, v', ⟨g1, g2⟩, ⟨k1, k2⟩, h, h', ha => by
    rw [g1] at k1
    have e1 : a.nd = b.nd := Sum.inr.inj k1
    have e2 := ha a List.mem_cons_self b List.mem_cons_self e1
    rw [← e2] at k2
    have h' : d (b.w :: ws l') = .inl v' := h'
    rw [← e2] at h'
    obtain ⟨i1, i2⟩ := tr_same l l' _ v v' g2 k2 h h' (fun r hr r' hr' => ha r (List.mem_cons_of_mem _ hr) r' (List.mem_cons_of_mem _ hr'))
    refine ⟨?_, i2⟩
    rw [i1]
    congr 1
    cases a; cases b; simp_all
/-- What is read behind a road by the same values is read by the whole. -/
theorem tr_reads : ∀ (l l' : List Rd) (d : Beh) (nd : Nd) (v' : V), Tr d l → Tr d l' → d (ws l) = .inr nd → d (ws l') = .inl v' →
    (∀ r ∈ l, ∀ r' ∈ l', r.nd = r'.nd → r.w = r'.w) → ∃ r' ∈ l', r'.nd = nd
  | [], [], d, nd, v', _, _, h, h', _ => by rw [h] at h'; cases h'
  | [], b :: l', d, nd, v', _, ⟨g1, _⟩, h, _, _ => by
    have h : d [] = .inr nd := h
    rw [h] at g1; cases g1; exact ⟨b, List.mem_cons_self, rfl⟩
  | a :: l, [], d, nd, v', ⟨g1, _⟩, _, _, h', _ => by
    have h' : d [] = .inl v' := h'
    rw [h'] at g1; cases g1
  | a :: l, b :: l', d, nd, v', ⟨g1, g2⟩, ⟨k1, k2⟩, h, h', ha => by
    rw [g1] at k1
    have e1 : a.nd = b.nd := Sum.inr.inj k1
    have e2 := ha a List.mem_cons_self b List.mem_cons_self e1
    rw [← e2] at k2
    have h' : d (b.w :: ws l') = .inl v' := h'
    rw [← e2] at h'
    obtain ⟨r', i1, i2⟩ := tr_reads l l' _ nd v' g2 k2 h h' (fun r hr r' hr' => ha r (List.mem_cons_of_mem _ hr) r' (List.mem_cons_of_mem _ hr'))
    exact ⟨r', List.mem_cons_of_mem _ i1, i2⟩

/-- What a cell is worth by so many steps of need. D: what formulas do. -/
def ev (D : ByteArray → Beh) (fs : Nat → ByteArray) : Nat → Nat → V → Prop
  | 0, _, _ => False
  | n + 1, c, v => (fs c = eB ∧ v = vN) ∨ (fs c ≠ eB ∧ ∃ rs, Tr (D (fs c)) rs ∧ D (fs c) (ws rs) = .inl v ∧ ∀ r ∈ rs, ∃ u, ev D fs n r.nd.c u ∧ r.w = see r.nd u)
section
variable {D : ByteArray → Beh} {fs : Nat → ByteArray}
theorem ev_succ : ∀ (n c : Nat) (v : V), ev D fs n c v → ev D fs (n + 1) c v
  | 0, _, _, h => h.elim
  | n + 1, c, v, h => by
    rcases h with h | ⟨h0, rs, h1, h2, h3⟩
    · exact .inl h
    · exact .inr ⟨h0, rs, h1, h2, fun r hr => by obtain ⟨u, g1, g2⟩ := h3 r hr; exact ⟨u, ev_succ n _ _ g1, g2⟩⟩
theorem ev_le {n m c : Nat} {v : V} (hnm : n ≤ m) (h : ev D fs n c v) : ev D fs m c v := by
  induction hnm with
  | refl => exact h
  | step _ ih => exact ev_succ _ _ _ ih
theorem ev_same : ∀ (n c : Nat) (v v' : V), ev D fs n c v → ev D fs n c v' → v = v'
  | 0, _, _, _, h, _ => h.elim
  | n + 1, c, v, v', h, h' => by
    rcases h with ⟨h, rfl⟩ | ⟨h0, rs, h1, h2, h3⟩
    · rcases h' with ⟨_, rfl⟩ | ⟨h0, _⟩
      · rfl
      · exact absurd h h0
    · rcases h' with ⟨h, _⟩ | ⟨_, rs', k1, k2, k3⟩
      · exact absurd h h0
      · refine (tr_same rs rs' _ v v' h1 k1 h2 k2 fun r hr r' hr' e => ?_).2
        obtain ⟨u, g1, g2⟩ := h3 r hr
        obtain ⟨u', g1', g2'⟩ := k3 r' hr'
        rw [← e] at g1' g2'
        rw [g2, g2', ev_same n _ u u' g1 g1']
theorem ev_det {n m c : Nat} {v v' : V} (h : ev D fs n c v) (h' : ev D fs m c v') : v = v' :=
  ev_same (max n m) c v v' (ev_le (Nat.le_max_left _ _) h) (ev_le (Nat.le_max_right _ _) h')

/-- What a cell is worth. -/
def Val (D : ByteArray → Beh) (fs : Nat → ByteArray) (c : Nat) (v : V) : Prop := (∃ n, ev D fs n c v) ∨ ((∀ n u, ¬ ev D fs n c u) ∧ v = cyc)
theorem val_all (D : ByteArray → Beh) (fs : Nat → ByteArray) : ∃ val : Nat → V, ∀ c, Val D fs c (val c) := by
  have h : ∀ c, ∃ v, Val D fs c v := by
    intro c
    by_cases h : ∃ n v, ev D fs n c v
    · obtain ⟨n, v, h⟩ := h; exact ⟨v, .inl ⟨n, h⟩⟩
    · exact ⟨cyc, .inr ⟨fun n u hu => h ⟨n, u, hu⟩, rfl⟩⟩
  exact ⟨fun c => Classical.choose (h c), fun c => Classical.choose_spec (h c)⟩
theorem Val.same {c : Nat} {v v' : V} (h : Val D fs c v) (h' : Val D fs c v') : v = v' := by
  rcases h with ⟨n, h⟩ | ⟨h, rfl⟩
  · rcases h' with ⟨m, h'⟩ | ⟨h', _⟩
    · exact ev_det h h'
    · exact absurd h (h' n v)
  · rcases h' with ⟨m, h'⟩ | ⟨h', rfl⟩
    · exact absurd h' (h m v')
    · rfl
theorem Val.ev {c : Nat} {v : V} (h : Val D fs c v) (hc : v ≠ cyc) : ∃ n, ev D fs n c v := by
  rcases h with h | ⟨_, h⟩
  · exact h
  · exact absurd h hc
/-- All formulas are such that may be. -/
def Fit (D : ByteArray → Beh) (fs : Nat → ByteArray) : Prop := ∀ c, fs c ≠ eB → AOK (D (fs c))
theorem ev_ok (hD : Fit D fs) : ∀ (n c : Nat) (v : V), ev D fs n c v → OKV v
  | 0, _, _, h => h.elim
  | n + 1, c, v, h => by
    rcases h with ⟨_, rfl⟩ | ⟨h0, rs, h1, h2, h3⟩
    · exact okv_none
    · obtain ⟨N, hN⟩ := hD c h0
      obtain ⟨_, m, hm⟩ := tr_ok rs _ N hN h1 (fun r hr => by obtain ⟨u, g1, g2⟩ := h3 r hr; rw [g2]; exact okv_see (ev_ok hD n _ _ g1))
      exact hm.now (by simpa using h2)
theorem Val.ok (hD : Fit D fs) {c : Nat} {v : V} (h : Val D fs c v) (hc : v ≠ cyc) : OKV v := by
  obtain ⟨n, h⟩ := h.ev hc; exact ev_ok hD n c v h
theorem Val.hangs (hD : Fit D fs) {c : Nat} (h : Val D fs c cyc) (n : Nat) (u : V) : ¬ Go.Proofs.YtiocnfambeochaaGreatDoor.ev D fs n c u := by
  rcases h with ⟨m, h⟩ | ⟨h, _⟩
  · exact absurd rfl (ev_ok hD m c _ h).2.2
  · exact h n u
theorem Val.none {c : Nat} {v : V} (h : Val D fs c v) (h0 : fs c = eB) : v = vN :=
  h.same (.inl ⟨1, .inl ⟨h0, rfl⟩⟩)

/-- What a cell is worth needs what the other is worth. -/
def Needs (D : ByteArray → Beh) (fs : Nat → ByteArray) (c o : Nat) : Prop := ∀ n v, ev D fs (n + 1) c v → ∃ u, ev D fs n o u
/-- These reads hold by what the cells are worth. -/
def Hold (val : Nat → V) (rs : List Rd) : Prop := ∀ r ∈ rs, r.w = see r.nd (val r.nd.c) ∧ val r.nd.c ≠ cyc
theorem Hold.app {val : Nat → V} {rs : List Rd} {r : Rd} (h : Hold val rs) (h1 : r.w = see r.nd (val r.nd.c)) (h2 : val r.nd.c ≠ cyc) : Hold val (rs ++ [r]) := by
  intro x hx
  rcases List.mem_append.1 hx with hx | hx
  · exact h x hx
  · rw [List.mem_singleton] at hx; subst hx; exact ⟨h1, h2⟩
theorem Hold.nil (val : Nat → V) : Hold val [] := by intro r hr; cases hr
theorem needs_of {val : Nat → V} (hv : ∀ c, Val D fs c (val c)) {c : Nat} (h0 : fs c ≠ eB) {rs : List Rd} (ht : Tr (D (fs c)) rs) (hh : Hold val rs) {nd : Nd} (hn : D (fs c) (ws rs) = .inr nd) : Needs D fs c nd.c := by
  intro n v h
  rcases h with ⟨h, _⟩ | ⟨_, rs', k1, k2, k3⟩
  · exact absurd h h0
  · obtain ⟨r', hr', e⟩ := tr_reads rs rs' _ nd v ht k1 hn k2 (fun r hr r' hr' e => by
      obtain ⟨u, g1, g2⟩ := k3 r' hr'
      obtain ⟨w1, w2⟩ := hh r hr
      have : u = val r'.nd.c := Val.same (D := D) (fs := fs) (.inl ⟨n, g1⟩) (hv _)
      rw [w1, g2, e, this])
    obtain ⟨u, g1, _⟩ := k3 r' hr'
    exact ⟨u, by rw [← e]; exact g1⟩
theorem ev_max {val : Nat → V} (hv : ∀ c, Val D fs c (val c)) : ∀ (rs : List Rd), Hold val rs → ∃ n, ∀ r ∈ rs, ev D fs n r.nd.c (val r.nd.c)
  | [], _ => ⟨0, by simp⟩
  | a :: l, h => by
    obtain ⟨n, hn⟩ := ev_max hv l (fun r hr => h r (List.mem_cons_of_mem _ hr))
    obtain ⟨m, hm⟩ := (hv a.nd.c).ev (h a List.mem_cons_self).2
    refine ⟨max n m, fun r hr => ?_⟩
    rcases List.mem_cons.1 hr with rfl | hr
    · exact ev_le (Nat.le_max_right _ _) hm
    · exact ev_le (Nat.le_max_left _ _) (hn r hr)
theorem val_of {val : Nat → V} (hv : ∀ c, Val D fs c (val c)) {c : Nat} (h0 : fs c ≠ eB) {rs : List Rd} (ht : Tr (D (fs c)) rs) (hh : Hold val rs) {v : V} (hn : D (fs c) (ws rs) = .inl v) : val c = v ∧ ∃ n, ev D fs n c v := by
  obtain ⟨n, hm⟩ := ev_max hv rs hh
  have : ev D fs (n + 1) c v := .inr ⟨h0, rs, ht, hn, fun r hr => ⟨_, hm r hr, (hh r hr).1⟩⟩
  exact ⟨(hv c).same (.inl ⟨_, this⟩), _, this⟩
theorem cyc_of (hD : Fit D fs) {val : Nat → V} (hv : ∀ c, Val D fs c (val c)) {c o : Nat} (hn : Needs D fs c o) (ho : val o = cyc) : val c = cyc := by
  rcases hv c with ⟨n, h⟩ | ⟨_, h⟩
  · cases n with
    | zero => exact h.elim
    | succ n =>
      obtain ⟨u, hu⟩ := hn n _ h
      have := hv o
      rw [ho] at this
      exact absurd hu (this.hangs hD n u)
  · exact h

/-- Along what each cell waits for (-1: nobody). -/
def along (wt : Nat → Int) : Nat → Int → Int
  | 0, x => x
  | n + 1, x => along wt n (if 0 ≤ x then wt x.toNat else -1)
theorem along_down {wt : Nat → Int} (hw : ∀ x : Nat, 0 ≤ wt x → Needs D fs x (wt x).toNat) : ∀ (m n : Nat) (o c : Nat) (u : V), along wt m o = c → ev D fs n o u → ∃ n', n' ≤ n ∧ ∃ u', ev D fs n' c u'
  | 0, n, o, c, u, h, he => by
    have : (o : Int) = c := h
    have : o = c := by omega
    subst this
    exact ⟨n, Nat.le_refl _, u, he⟩
  | m + 1, n, o, c, u, h, he => by
    have h : along wt m (if 0 ≤ (o : Int) then wt (o : Int).toNat else -1) = c := h
    rw [if_pos (by omega), Int.toNat_natCast] at h
    cases n with
    | zero => exact he.elim
    | succ n =>
      by_cases h0 : 0 ≤ wt o
      · obtain ⟨u2, hu2⟩ := hw o h0 n u he
        obtain ⟨n', h1, h2⟩ := along_down hw m n (wt o).toNat c u2 (by rw [Int.toNat_of_nonneg h0]; exact h) hu2
        exact ⟨n', by omega, h2⟩
      · exfalso
        have : ∀ (m : Nat) (x : Int), x < 0 → along wt m x < 0 := by
          intro m
          induction m with
          | zero => intro x hx; exact hx
          | succ m ih => intro x hx; exact ih _ (by rw [if_neg (by omega)]; omega)
        have := this m (wt o) (by omega)
        omega
/-- What needs itself by what each waits for hangs on itself. -/
theorem ring_hangs {wt : Nat → Int} (hw : ∀ x : Nat, 0 ≤ wt x → Needs D fs x (wt x).toNat) {c o m : Nat} (hr : along wt m o = c) (hn : Needs D fs c o) : ∀ n u, ¬ ev D fs n o u := by
  intro n
  induction n using Nat.strongRecOn with
  | _ n ih =>
    intro u hu
    obtain ⟨n', h1, u', h2⟩ := along_down hw m n o c u hr hu
    cases n' with
    | zero => exact h2.elim
    | succ n' =>
      obtain ⟨u3, h3⟩ := hn n' u' h2
      exact ih n' (by omega) u3 h3
theorem ring_cyc {wt : Nat → Int} {val : Nat → V} (hv : ∀ c, Val D fs c (val c)) (hw : ∀ x : Nat, 0 ≤ wt x → Needs D fs x (wt x).toNat) {c o m : Nat} (hr : along wt m o = c) (hn : Needs D fs c o) : val o = cyc := by
  rcases hv o with ⟨n, h⟩ | ⟨_, h⟩
  · exact absurd h (ring_hangs hw hr hn n _)
  · exact h
end
end Go.Proofs.YtiocnfambeochaaGreatDoor

/- Plain mathematics: what the signs make of values; the machine that works a formula out by small steps; what it comes to. -/
set_option linter.unusedVariables false
set_option linter.unusedSimpArgs false
namespace Go.Proofs.YtiocnfambeochaaGreatDoor

def inR (n : Int) : Bool := decide (-9223372036854775808 ≤ n ∧ n ≤ 9223372036854775807)
def vNum (n : Int) : V := if inR n = true then vI n else vE 1
def vAdd (a b : V) : V := if a.k = 1 ∧ b.k = 1 then vNum (a.n + b.n) else vE 4
def vSub (a b : V) : V := if a.k = 1 ∧ b.k = 1 then vNum (a.n - b.n) else vE 4
def vMul (a b : V) : V := if a.k = 1 ∧ b.k = 1 then vNum (a.n * b.n) else vE 4
def vDiv (a b : V) : V := if a.k = 1 ∧ b.k = 1 then (if b.n = 0 then vE 2 else vNum (a.n.tdiv b.n)) else vE 4
def vJoin (a b : V) : V := if a.k = 3 ∧ b.k = 3 then (if 20 < a.s.size + b.s.size then vE 1 else vT (a.s ++ b.s)) else vE 4
def vEq (a b : V) : V := if a.k = b.k then vB (a.eqB b) else vE 4
/-- Byte by byte. -/
def ltL : List UInt8 → List UInt8 → Bool
  | [], [] => false
  | [], _ :: _ => true
  | _ :: _, [] => false
  | a :: l, b :: m => if a.toNat < b.toNat then true else if b.toNat < a.toNat then false else ltL l m
def vLess (a b : V) : V := if a.k = 1 ∧ b.k = 1 then vB (decide (a.n < b.n)) else if a.k = 3 ∧ b.k = 3 then vB (ltL a.s.data.toList b.s.data.toList) else vE 4
def vNeg (a : V) : V := vSub (vI 0) a
def comb (op : Nat) (a b : V) : V :=
  if op = 5 then vAdd a b else if op = 6 then vSub a b else if op = 7 then vMul a b else if op = 8 then vDiv a b else if op = 9 then vJoin a b else if op = 10 then vEq a b else vLess a b
theorem ok_e {n : Int} (h : n ≠ 5) (hn : I64 n) : OKV (vE n) := ⟨hn, by unfold I64 vE; simp, by intro e; unfold cyc vE at e; simp at e; exact h e⟩
theorem ok_e1 : OKV (vE 1) := ok_e (by decide) (by unfold I64; omega)
theorem ok_e2 : OKV (vE 2) := ok_e (by decide) (by unfold I64; omega)
theorem ok_e3 : OKV (vE 3) := ok_e (by decide) (by unfold I64; omega)
theorem ok_e4 : OKV (vE 4) := ok_e (by decide) (by unfold I64; omega)
theorem ok_i {n : Int} (hn : I64 n) : OKV (vI n) := ⟨hn, by unfold I64 vI; simp, by intro e; unfold cyc vE vI at e; simp at e⟩
theorem ok_b (b : Bool) : OKV (vB b) := ⟨by unfold I64 vB; cases b <;> simp, by unfold I64 vB; simp, by intro e; unfold cyc vE vB at e; simp at e⟩
theorem ok_t (s : ByteArray) : OKV (vT s) := ⟨by unfold I64 vT; simp, by unfold I64 vT; simp, by intro e; unfold cyc vE vT at e; simp at e⟩
theorem ok_num (n : Int) : OKV (vNum n) := by
  unfold vNum
  split
  · rename_i h; exact ok_i (by unfold inR at h; unfold I64; exact of_decide_eq_true h)
  · exact ok_e1
theorem ok_add (a b : V) : OKV (vAdd a b) := by unfold vAdd; split; exact ok_num _; exact ok_e4
theorem ok_sub (a b : V) : OKV (vSub a b) := by unfold vSub; split; exact ok_num _; exact ok_e4
theorem ok_mul (a b : V) : OKV (vMul a b) := by unfold vMul; split; exact ok_num _; exact ok_e4
theorem ok_div (a b : V) : OKV (vDiv a b) := by unfold vDiv; split; split; exact ok_e2; exact ok_num _; exact ok_e4
theorem ok_join (a b : V) : OKV (vJoin a b) := by unfold vJoin; split; split; exact ok_e1; exact ok_t _; exact ok_e4
theorem ok_eq (a b : V) : OKV (vEq a b) := by unfold vEq; split; exact ok_b _; exact ok_e4
theorem ok_less (a b : V) : OKV (vLess a b) := by unfold vLess; split; exact ok_b _; split; exact ok_b _; exact ok_e4
theorem ok_neg (a : V) : OKV (vNeg a) := ok_sub _ _
theorem ok_comb (op : Nat) (a b : V) : OKV (comb op a b) := by
  unfold comb
  split; exact ok_add _ _
  split; exact ok_sub _ _
  split; exact ok_mul _ _
  split; exact ok_div _ _
  split; exact ok_join _ _
  split; exact ok_eq _ _
  exact ok_less _ _

/-- The number of the cell of this name. -/
def cellN (l : List UInt8) : Option Nat :=
  match l with
  | [a, b] => if 65 ≤ a.toNat ∧ a.toNat ≤ 70 ∧ 49 ≤ b.toNat ∧ b.toNat ≤ 56 then some ((b.toNat - 49) * 6 + (a.toNat - 65)) else none
  | _ => none
theorem cellN_lt {l : List UInt8} {c : Nat} (h : cellN l = some c) : c < 48 := by
  unfold cellN at h
  split at h
  · split at h
    · cases h; omega
    · cases h
  · cases h

/-- An instruction: what it does (0 put, 1 read, 2 read apart, 3 read named, 4 negate, 5 to 11 the signs, 12 tally, 13 choose, 14 jump, 15 guard, 16 unguard), a value, a cell, where to go. -/
structure Ins where
  op : Nat
  v : V
  cell : Nat
  to : Nat
structure Mc where
  code : List Ins
  at' : Nat
  vals : List V
  gd : List (Nat × Nat)
def Mc.push (m : Mc) (v : V) : Mc := { m with vals := m.vals ++ [v] }
def stepM (m : Mc) (i : Ins) : Option (Mc × Option Nd) :=
  if i.op = 0 then some (({ m with at' := m.at' + 1 } : Mc).push i.v, none)
  else if i.op = 1 ∨ i.op = 2 then some ({ m with at' := m.at' + 1 }, some ⟨i.cell, decide (i.op = 2)⟩)
  else if i.op = 14 then some ({ m with at' := i.to }, none)
  else if i.op = 15 then some ({ m with at' := m.at' + 1, gd := m.gd ++ [(i.to, m.vals.length)] }, none)
  else match m.vals.getLast? with
    | none => none
    | some y =>
      if i.op = 3 then
        (if y.k ≠ 3 then some (⟨m.code, m.at' + 1, m.vals.dropLast ++ [vE 4], m.gd⟩, none)
        else match cellN y.s.data.toList with
          | none => some (⟨m.code, m.at' + 1, m.vals.dropLast ++ [vE 3], m.gd⟩, none)
          | some c => some (⟨m.code, m.at' + 1, m.vals.dropLast, m.gd⟩, some ⟨c, false⟩))
      else if i.op = 4 then some (⟨m.code, m.at' + 1, m.vals.dropLast ++ [vNeg y], m.gd⟩, none)
      else if i.op = 13 then
        (if y.k ≠ 2 then some (⟨m.code, m.at' + 1, m.vals.dropLast ++ [vE 4], m.gd⟩, none)
        else some (⟨m.code, if y.n = 0 then i.to else m.at' + 1, m.vals.dropLast, m.gd⟩, none))
      else if i.op = 16 then (if m.gd = [] then none else some (⟨m.code, m.at' + 1, m.vals.dropLast ++ [vB false], m.gd.dropLast⟩, none))
      else if i.op = 12 ∧ y.k ≠ 1 then some (⟨m.code, m.at' + 1, m.vals.dropLast, m.gd⟩, none)
      else match m.vals.dropLast.getLast? with
        | none => none
        | some x => some (⟨m.code, m.at' + 1, m.vals.dropLast.dropLast ++ [if i.op = 12 then vAdd x (vI 1) else comb i.op x y], m.gd⟩, none)
def failB (m : Mc) : Bool := match m.vals.getLast? with | some v => decide (v.k = 4) | none => false
/-- One round of the machine: it goes on; it is done; it reads. -/
def headM (m : Mc) : Option (Sum Mc (Mc × Option Nd)) :=
  if failB m = true then
    match m.gd.getLast? with
    | none => some (.inr (m, none))
    | some g => if g.2 ≤ m.vals.length then some (.inl ⟨m.code, g.1, m.vals.take g.2 ++ [vB true], m.gd.dropLast⟩) else none
  else match m.code[m.at']? with
    | none => if m.at' = m.code.length then some (.inr (m, none)) else none
    | some i => match stepM m i with
      | none => none
      | some (m', none) => some (.inl m')
      | some (m', some nd) => some (.inr (m', some nd))
def goM : Nat → Mc → Option (Mc × Option Nd)
  | 0, _ => none
  | n + 1, m => match headM m with
    | none => none
    | some (.inr x) => some x
    | some (.inl m') => goM n m'
/-- The machine does what d says, and reads so many cells at most. -/
def Runs : Nat → Mc → Beh → Prop
  | 0, m, d => ∃ f m' v, goM f m = some (m', none) ∧ m'.vals.getLast? = some v ∧ OKV v ∧ d [] = .inl v
  | n + 1, m, d => (∃ f m' v, goM f m = some (m', none) ∧ m'.vals.getLast? = some v ∧ OKV v ∧ d [] = .inl v) ∨
      ∃ f m' nd, goM f m = some (m', some nd) ∧ nd.c < 48 ∧ d [] = .inr nd ∧ ∀ x, OKV x → Runs n (m'.push x) (fun l => d (x :: l))
theorem Runs.actN : ∀ (n : Nat) (m : Mc) (d : Beh), Runs n m d → ActN n d
  | 0, m, d, ⟨f, m', v, _, _, h1, h2⟩ => ⟨v, h1, h2⟩
  | n + 1, m, d, .inl ⟨f, m', v, _, _, h1, h2⟩ => .inl ⟨v, h1, h2⟩
  | n + 1, m, d, .inr ⟨f, m', nd, _, h1, h2, h3⟩ => .inr ⟨nd, h1, h2, fun x hx => Runs.actN n _ _ (h3 x hx)⟩
theorem Runs.succ : ∀ (n : Nat) (m : Mc) (d : Beh), Runs n m d → Runs (n + 1) m d
  | 0, m, d, h => .inl h
  | n + 1, m, d, .inl h => .inl h
  | n + 1, m, d, .inr ⟨f, m', nd, h0, h1, h2, h3⟩ => .inr ⟨f, m', nd, h0, h1, h2, fun x hx => Runs.succ n _ _ (h3 x hx)⟩
theorem Runs.le {n k : Nat} {m : Mc} {d : Beh} (h : Runs n m d) (hk : n ≤ k) : Runs k m d := by
  induction hk with
  | refl => exact h
  | step _ ih => exact Runs.succ _ _ _ ih
theorem runs_step {n : Nat} {m m' : Mc} {d : Beh} (h : headM m = some (.inl m')) (hr : Runs n m' d) : Runs n m d := by
  cases n with
  | zero =>
    obtain ⟨f, m2, v, h1, h2⟩ := hr
    exact ⟨f + 1, m2, v, by rw [goM, h]; exact h1, h2⟩
  | succ n =>
    rcases hr with ⟨f, m2, v, h1, h2⟩ | ⟨f, m2, nd, h1, h2⟩
    · exact .inl ⟨f + 1, m2, v, by rw [goM, h]; exact h1, h2⟩
    · exact .inr ⟨f + 1, m2, nd, by rw [goM, h]; exact h1, h2⟩
theorem runs_ask {n : Nat} {m m' : Mc} {nd : Nd} {k : V → Beh} (h : headM m = some (.inr (m', some nd))) (hc : nd.c < 48) (hr : ∀ x, OKV x → Runs n (m'.push x) (k x)) : Runs (n + 1) m (askA nd k) :=
  .inr ⟨1, m', nd, by rw [goM, h], hc, rfl, hr⟩

/-- What comes behind a part: with its value on the stack; or, if that is an Error, from wherever it was found. -/
def Cont (n : Nat) (code : List Ins) (off : Nat) (S : List V) (G : List (Nat × Nat)) (k : V → Beh) : Prop :=
  (∀ v, OKV v → v.k ≠ 4 → Runs n ⟨code, off, S ++ [v], G⟩ (k v)) ∧ ∀ v, OKV v → v.k = 4 → ∀ (p : Nat) (T : List V), Runs n ⟨code, p, S ++ T ++ [v], G⟩ (k v)
theorem Cont.err {n : Nat} {code : List Ins} {off : Nat} {S : List V} {G : List (Nat × Nat)} {k : V → Beh} (h : Cont n code off S G k) {v : V} (hv : OKV v) (h4 : v.k = 4) (p : Nat) (T : List V) : Runs n ⟨code, p, S ++ T ++ [v], G⟩ (k v) := h.2 v hv h4 p T
theorem Cont.val {n : Nat} {code : List Ins} {off : Nat} {S : List V} {G : List (Nat × Nat)} {k : V → Beh} (h : Cont n code off S G k) {v : V} (hv : OKV v) : Runs n ⟨code, off, S ++ [v], G⟩ (k v) := by
  by_cases h4 : v.k = 4
  · have := h.2 v hv h4 off []
    simpa using this
  · exact h.1 v hv h4
theorem Cont.le {n n' : Nat} {code : List Ins} {off : Nat} {S : List V} {G : List (Nat × Nat)} {k : V → Beh} (h : Cont n code off S G k) (hn : n ≤ n') : Cont n' code off S G k :=
  ⟨fun v h1 h2 => (h.1 v h1 h2).le hn, fun v h1 h2 p T => (h.2 v h1 h2 p T).le hn⟩
theorem head_at {code : List Ins} {off : Nat} {S : List V} {G : List (Nat × Nat)} {i : Ins} (hi : code[off]? = some i) (hS : failB ⟨code, off, S, G⟩ = false) :
    headM ⟨code, off, S, G⟩ = match stepM ⟨code, off, S, G⟩ i with | none => none | some (m', none) => some (.inl m') | some (m', some nd) => some (.inr (m', some nd)) := by
  unfold headM
  rw [if_neg (by rw [hS]; decide)]
  simp only [hi]
/-- The stack's top is no Error. -/
def NF (S : List V) : Prop := ∀ v, S.getLast? = some v → v.k ≠ 4
theorem NF.fail {code : List Ins} {off : Nat} {S : List V} {G : List (Nat × Nat)} (h : NF S) : failB ⟨code, off, S, G⟩ = false := by
  unfold failB
  cases e : S.getLast? with
  | none => simp only [e]
  | some v => simp only [e]; exact decide_eq_false (h v e)
theorem NF.app {S : List V} {v : V} (h : v.k ≠ 4) : NF (S ++ [v]) := by
  intro u hu
  rw [List.getLast?_concat] at hu
  cases hu; exact h
/-- From here the part is worked out, whatever comes behind. -/
def Sg (code : List Ins) (off fin : Nat) (d : Beh) : Prop := ∃ m, ∀ S G n k, NF S → Cont n code fin S G k → Runs (n + m) ⟨code, off, S, G⟩ (bindA d k)
def bindE (d : Beh) (k : V → Beh) : Beh := bindA d (fun v => if v.k = 4 then retA v else k v)
def readA (nd : Nd) : Beh := askA nd retA

end Go.Proofs.YtiocnfambeochaaGreatDoor

/- Plain mathematics: how a formula's tokens are turned into instructions, and that the machine does with these what the formula says. -/
set_option linter.unusedVariables false
set_option linter.unusedSimpArgs false
namespace Go.Proofs.YtiocnfambeochaaGreatDoor

/-- The instructions stand there. -/
def Sits (code : List Ins) (off : Nat) (seg : List Ins) : Prop := ∃ pre post, code = pre ++ (seg ++ post) ∧ pre.length = off
theorem Sits.left {code : List Ins} {off : Nat} {a b : List Ins} (h : Sits code off (a ++ b)) : Sits code off a := by
  obtain ⟨p, q, h1, h2⟩ := h
  exact ⟨p, b ++ q, by rw [h1]; simp, h2⟩
theorem Sits.right {code : List Ins} {off : Nat} {a b : List Ins} (h : Sits code off (a ++ b)) : Sits code (off + a.length) b := by
  obtain ⟨p, q, h1, h2⟩ := h
  exact ⟨p ++ a, q, by rw [h1]; simp, by simp [h2]⟩
theorem Sits.one {code : List Ins} {off : Nat} {i : Ins} {l : List Ins} (h : Sits code off (i :: l)) : code[off]? = some i := by
  obtain ⟨p, q, h1, h2⟩ := h
  rw [h1, ← h2, List.getElem?_append_right (Nat.le_refl _), Nat.sub_self]
  rfl
def hk (ts : List Tk) : Int := match ts with | t :: _ => t.k | [] => 0
def hx (ts : List Tk) : List UInt8 := match ts with | t :: _ => t.x | [] => []
def iPut (v : V) : Ins := ⟨0, v, 0, 0⟩
def iOp (op : Nat) : Ins := ⟨op, vN, 0, 0⟩
def iRead (op c : Nat) : Ins := ⟨op, vN, c, 0⟩
def iTo (op to : Nat) : Ins := ⟨op, vN, 0, to⟩
def signs (lv : Nat) : List Int := if lv = 0 then [21, 22] else if lv = 1 then [16, 17, 20] else [18, 19]
def signOp (k : Int) : Nat := if k = 16 then 5 else if k = 17 then 6 else if k = 18 then 7 else if k = 19 then 8 else if k = 20 then 9 else if k = 21 then 10 else 11
def binA (op : Nat) (d e : Beh) : Beh := bindE d (fun x => bindE e (fun y => retA (comb op x y)))
def negA (d : Beh) : Beh := bindE d (fun v => retA (vNeg v))
def ifA (d e f : Beh) : Beh := bindE d (fun v => if v.k ≠ 2 then retA (vE 4) else if v.n = 0 then f else e)
def atV (v : V) : Beh := if v.k ≠ 3 then retA (vE 4) else match cellN v.s.data.toList with | none => retA (vE 3) | some c => readA ⟨c, false⟩
def atA (d : Beh) : Beh := bindE d atV
def badA' (d : Beh) : Beh := bindA d (fun v => retA (vB (decide (v.k = 4))))
def sumA : List Nat → V → Beh
  | [], v => retA v
  | c :: l, v => bindE (readA ⟨c, false⟩) (fun x => bindE (retA (vAdd v x)) (sumA l))
def cntA : List Nat → V → Beh
  | [], v => retA v
  | c :: l, v => bindE (readA ⟨c, true⟩) (fun x => bindE (retA (if x.k = 1 then vAdd v (vI 1) else v)) (cntA l))
def rangeL (a b : Nat) : List Nat := (List.range' (a / 6) (b / 6 + 1 - a / 6)).flatMap fun row => (List.range' (a % 6) (b % 6 + 1 - a % 6)).map fun col => row * 6 + col
def eachI (o1 o2 : Nat) (l : List Nat) : List Ins := l.flatMap fun c => [iRead o1 c, iOp o2]
/-- 0 FORMULA, 1 SUM, 2 PRODUCT, 3 ATOM; 4 to 6: the row goes on, of which these instructions are there (from off on). What comes: the instructions, what they do, the tokens that are left. -/
def cmp : Nat → Nat → Nat → List Ins → Beh → List Tk → Option (List Ins × Beh × List Tk)
  | 0, _, _, _, _, _ => none
  | f + 1, tag, off, s, d, ts =>
    if tag < 3 then (cmp f (tag + 1) off [] (retA vN) ts).bind fun x => cmp f (tag + 4) off x.1 x.2.1 x.2.2
    else if tag = 3 then
      if hk ts = 23 then (cmp f 3 off [] (retA vN) ts.tail).bind fun x => some (x.1 ++ [iOp 4], negA x.2.1, x.2.2)
      else if hk ts = 1 then (if valN (hx ts) ≤ 9223372036854775807 then some ([iPut (vI (valN (hx ts)))], retA (vI (valN (hx ts))), ts.tail) else none)
      else if hk ts = 2 then some ([iPut (vT ⟨((hx ts).drop 1).dropLast.toArray⟩)], retA (vT ⟨((hx ts).drop 1).dropLast.toArray⟩), ts.tail)
      else if hk ts = 3 ∨ hk ts = 4 then some ([iPut (vB (decide (hk ts = 3)))], retA (vB (decide (hk ts = 3))), ts.tail)
      else if hk ts = 5 then (cellN (hx ts)).bind fun c => some ([iRead 1 c], readA ⟨c, false⟩, ts.tail)
      else if hk ts = 12 then (cmp f 0 off [] (retA vN) ts.tail).bind fun x => some (x.1, x.2.1, x.2.2.tail)
      else if hk ts = 6 then
        (cmp f 0 off [] (retA vN) ts.tail.tail).bind fun x =>
        (cmp f 0 (off + x.1.length + 1) [] (retA vN) x.2.2.tail).bind fun y =>
        (cmp f 0 (off + x.1.length + 1 + y.1.length + 1) [] (retA vN) y.2.2.tail).bind fun z =>
          some (x.1 ++ (iTo 13 (off + x.1.length + 1 + y.1.length + 1) :: (y.1 ++ (iTo 14 (off + x.1.length + 1 + y.1.length + 1 + z.1.length) :: z.1))), ifA x.2.1 y.2.1 z.2.1, z.2.2.tail)
      else if hk ts = 7 then (cmp f 0 off [] (retA vN) ts.tail.tail).bind fun x => some (x.1 ++ [iOp 3], atA x.2.1, x.2.2.tail)
      else if hk ts = 8 then (cmp f 0 (off + 1) [] (retA vN) ts.tail.tail).bind fun x => some (iTo 15 (off + 1 + x.1.length + 1) :: (x.1 ++ [iOp 16]), badA' x.2.1, x.2.2.tail)
      else if hk ts = 9 ∨ hk ts = 10 then
        (cellN (hx ts.tail.tail)).bind fun a => (cellN (hx ts.tail.tail.tail.tail)).bind fun b =>
          some (iPut (vI 0) :: (if hk ts = 9 then eachI 1 5 (rangeL a b) else eachI 2 12 (rangeL a b)), if hk ts = 9 then sumA (rangeL a b) (vI 0) else cntA (rangeL a b) (vI 0), ts.tail.tail.tail.tail.tail.tail)
      else none
    else if hk ts ∈ signs (tag - 4) then
      (cmp f (tag - 3) (off + s.length) [] (retA vN) ts.tail).bind fun x => cmp f tag off (s ++ (x.1 ++ [iOp (signOp (hk ts))])) (binA (signOp (hk ts)) d x.2.1) x.2.2
    else some (s, d, ts)

section
variable {code : List Ins} {off fin : Nat} {d e : Beh}
theorem run_ret {n : Nat} {code : List Ins} {off : Nat} {S : List V} {G : List (Nat × Nat)} {k : V → Beh} {v : V} (h : Cont n code off S G k) (hv : OKV v) : Runs n ⟨code, off, S ++ [v], G⟩ (bindA (retA v) k) := by
  rw [bind_ret]; exact h.val hv
theorem sg_put {v : V} (hv : OKV v) (hi : code[off]? = some (iPut v)) : Sg code off (off + 1) (retA v) := by
  refine ⟨0, fun S G n k hS hc => ?_⟩
  refine runs_step (m' := ⟨code, off + 1, S ++ [v], G⟩) ?_ (run_ret hc hv)
  rw [head_at hi hS.fail]
  rfl
theorem sg_read {c : Nat} (o : Nat) (ho : o = 1 ∨ o = 2) (hc : c < 48) (hi : code[off]? = some (iRead o c)) : Sg code off (off + 1) (readA ⟨c, decide (o = 2)⟩) := by
  refine ⟨1, fun S G n k hS hk => ?_⟩
  unfold readA
  rw [bind_ask]
  refine runs_ask (m' := ⟨code, off + 1, S, G⟩) ?_ hc fun x hx => run_ret hk hx
  rw [head_at hi hS.fail]
  unfold stepM iRead
  simp only
  rw [if_neg (by omega), if_pos ho]
/-- A part, and behind it one step that takes its value. -/
theorem cont_e {n : Nat} {S : List V} {G : List (Nat × Nat)} {k : V → Beh} {g : V → Beh} {mid : Nat} {fin : Nat} (hc : Cont n code fin S G k) {n' : Nat} (hn : n ≤ n')
    (h : ∀ v, OKV v → v.k ≠ 4 → Runs n' ⟨code, mid, S ++ [v], G⟩ (bindA (g v) k)) : Cont n' code mid S G (fun v => bindA (if v.k = 4 then retA v else g v) k) := by
  refine ⟨fun v hv h4 => ?_, fun v hv h4 p T => ?_⟩
  · simp only [if_neg h4]; exact h v hv h4
  · simp only [if_pos h4]; rw [bind_ret]; exact (hc.err hv h4 p T).le hn
theorem sg_bindE {g : V → Beh} {mid : Nat} (h : Sg code off mid d) (m2 : Nat) (hg : ∀ v, OKV v → v.k ≠ 4 → ∀ S G n k, NF S → Cont n code fin S G k → Runs (n + m2) ⟨code, mid, S ++ [v], G⟩ (bindA (g v) k)) : Sg code off fin (bindE d g) := by
  obtain ⟨m1, h⟩ := h
  refine ⟨m2 + m1, fun S G n k hS hc => ?_⟩
  unfold bindE
  rw [bind_assoc, ← Nat.add_assoc]
  exact h S G (n + m2) _ hS (cont_e hc (by omega) fun v hv h4 => hg v hv h4 S G n k hS hc)
theorem step_top {S : List V} {G : List (Nat × Nat)} {v : V} {i : Ins} {p : Nat} (hi : code[p]? = some i) (h4 : v.k ≠ 4) :
    headM ⟨code, p, S ++ [v], G⟩ = match stepM ⟨code, p, S ++ [v], G⟩ i with | none => none | some (m', none) => some (.inl m') | some (m', some nd) => some (.inr (m', some nd)) :=
  head_at hi (NF.app h4).fail
theorem sg_neg {mid : Nat} (h : Sg code off mid d) (hi : code[mid]? = some (iOp 4)) : Sg code off (mid + 1) (negA d) := by
  refine sg_bindE h 0 fun v hv h4 S G n k hS hc => ?_
  refine runs_step (m' := ⟨code, mid + 1, S ++ [vNeg v], G⟩) ?_ (run_ret hc (ok_neg v))
  rw [step_top hi h4]
  simp [stepM, iOp]
theorem sg_bin {op mid mid2 : Nat} (h : Sg code off mid d) (h2 : Sg code mid mid2 e) (ho : 5 ≤ op ∧ op ≤ 11) (hi : code[mid2]? = some (iOp op)) : Sg code off (mid2 + 1) (binA op d e) := by
  obtain ⟨m2, h2⟩ := h2
  refine sg_bindE h m2 fun v hv h4 S G n k hS hc => ?_
  unfold bindE
  rw [bind_assoc]
  refine h2 (S ++ [v]) G n _ (NF.app h4) ⟨fun u hu hu4 => ?_, fun u hu hu4 p T => ?_⟩
  · simp only [if_neg hu4]
    refine runs_step (m' := ⟨code, mid2 + 1, S ++ [comb op v u], G⟩) ?_ (run_ret hc (ok_comb op v u))
    rw [step_top hi hu4]
    unfold stepM iOp
    simp only
    rw [if_neg (by omega), if_neg (by omega), if_neg (by omega), if_neg (by omega), List.getLast?_concat]
    simp only
    rw [if_neg (by omega), if_neg (by omega), if_neg (by omega), if_neg (by omega), if_neg (by omega), List.dropLast_concat, List.getLast?_concat]
    simp only
    rw [List.dropLast_concat, if_neg (by omega)]
  · simp only [if_pos hu4]
    rw [bind_ret]
    have := hc.err hu hu4 p ([v] ++ T)
    simpa using this
theorem sg_if {f : Beh} {m1 m2 m3 : Nat} {t1 t2 : Nat} (h1 : Sg code off m1 d) (hi1 : code[m1]? = some (iTo 13 (m2 + 1))) (h2 : Sg code (m1 + 1) m2 e) (hi2 : code[m2]? = some (iTo 14 m3)) (h3 : Sg code (m2 + 1) m3 f) : Sg code off m3 (ifA d e f) := by
  obtain ⟨a2, h2⟩ := h2
  obtain ⟨a3, h3⟩ := h3
  refine sg_bindE h1 (a2 + a3) fun v hv h4 S G n k hS hc => ?_
  by_cases hb : v.k = 2
  · simp only [if_neg (not_not_intro hb)]
    by_cases h0 : v.n = 0
    · simp only [if_pos h0]
      refine runs_step (m' := ⟨code, m2 + 1, S, G⟩) ?_ ((h3 S G n k hS hc).le (by omega))
      rw [step_top hi1 h4]
      simp [stepM, iTo, hb, h0]
    · simp only [if_neg h0]
      refine runs_step (m' := ⟨code, m1 + 1, S, G⟩) ?_ ((h2 S G n k hS ⟨fun u hu hu4 => ?_, fun u hu hu4 p T => hc.err hu hu4 p T⟩).le (by omega))
      · rw [step_top hi1 h4]
        simp [stepM, iTo, hb, h0]
      · refine runs_step (m' := ⟨code, m3, S ++ [u], G⟩) ?_ (hc.val hu)
        rw [step_top hi2 hu4]
        simp [stepM, iTo]
  · simp only [if_pos hb]
    refine runs_step (m' := ⟨code, m1 + 1, S ++ [vE 4], G⟩) ?_ ?_
    · rw [step_top hi1 h4]
      simp [stepM, iTo, hb]
    · rw [bind_ret]
      have := (hc.err ok_e4 rfl (m1 + 1) []).le (Nat.le_add_right n (a2 + a3))
      simpa using this
theorem sg_at {mid : Nat} (h : Sg code off mid d) (hi : code[mid]? = some (iOp 3)) : Sg code off (mid + 1) (atA d) := by
  refine sg_bindE h 1 fun v hv h4 S G n k hS hc => ?_
  unfold atV
  by_cases hb : v.k = 3
  · simp only [if_neg (not_not_intro hb)]
    cases hn : cellN v.s.data.toList with
    | none =>
      refine runs_step (m' := ⟨code, mid + 1, S ++ [vE 3], G⟩) ?_ ((run_ret hc ok_e3).le (by omega))
      rw [step_top hi h4]
      simp [stepM, iOp, hb, hn]
    | some c =>
      show Runs (n + 1) _ (bindA (readA ⟨c, false⟩) k)
      unfold readA
      rw [bind_ask]
      refine runs_ask (m' := ⟨code, mid + 1, S, G⟩) ?_ (cellN_lt hn) fun x hx => run_ret hc hx
      rw [step_top hi h4]
      simp [stepM, iOp, hb, hn]
  · simp only [if_pos hb]
    refine runs_step (m' := ⟨code, mid + 1, S ++ [vE 4], G⟩) ?_ ((run_ret hc ok_e4).le (by omega))
    rw [step_top hi h4]
    simp [stepM, iOp, hb]
theorem sg_bad {mid : Nat} (hi0 : code[off]? = some (iTo 15 (mid + 1))) (h : Sg code (off + 1) mid d) (hi : code[mid]? = some (iOp 16)) : Sg code off (mid + 1) (badA' d) := by
  obtain ⟨m1, h⟩ := h
  refine ⟨m1, fun S G n k hS hc => ?_⟩
  refine runs_step (m' := ⟨code, off + 1, S, G ++ [(mid + 1, S.length)]⟩) ?_ ?_
  · rw [head_at hi0 hS.fail]
    simp [stepM, iTo]
  · unfold badA'
    rw [bind_assoc]
    refine h S _ n _ hS ⟨fun v hv h4 => ?_, fun v hv h4 p T => ?_⟩
    · have e : decide (v.k = 4) = false := decide_eq_false h4
      dsimp only
      rw [e]
      refine runs_step (m' := ⟨code, mid + 1, S ++ [vB false], G⟩) ?_ (run_ret hc (ok_b false))
      rw [step_top hi h4]
      simp [stepM, iOp]
    · have e : decide (v.k = 4) = true := decide_eq_true h4
      dsimp only
      rw [e]
      refine runs_step (m' := ⟨code, mid + 1, S ++ [vB true], G⟩) ?_ (run_ret hc (ok_b true))
      unfold headM
      rw [if_pos (by unfold failB; simp only [List.getLast?_concat]; exact e)]
      simp only [List.getLast?_concat, List.dropLast_concat]
      rw [if_pos (by simp)]
      simp
theorem sg_ret {v : V} (hv : OKV v) : ∀ {n : Nat} {S : List V} {G : List (Nat × Nat)} {k : V → Beh}, Cont n code off S G k → Runs n ⟨code, off, S ++ [v], G⟩ (bindA (retA v) k) := fun hc => run_ret hc hv
/-- The cells of a range, one behind the other; the value so far lies on the stack. -/
theorem run_sum : ∀ (l : List Nat) (p : Nat) (v : V), (∀ c ∈ l, c < 48) → Sits code p (eachI 1 5 l) → OKV v → v.k ≠ 4 → ∀ S G n k, NF S → Cont n code (p + (eachI 1 5 l).length) S G k → Runs (n + l.length) ⟨code, p, S ++ [v], G⟩ (bindA (sumA l v) k)
  | [], p, v, _, _, hv, _, S, G, n, k, _, hc => by
    exact run_ret (by simpa [eachI] using hc) hv
  | c :: l, p, v, hl, hs, hv, h4, S, G, n, k, hS, hc => by
    have es : eachI 1 5 (c :: l) = [iRead 1 c, iOp 5] ++ eachI 1 5 l := rfl
    rw [es] at hs hc
    have i1 := hs.left.one
    have i2 : code[p + 1]? = some (iOp 5) := (Sits.right (a := [iRead 1 c]) (b := [iOp 5]) hs.left).one
    have hc' : Cont n code (p + 2 + (eachI 1 5 l).length) S G k := by
      have e : p + ([iRead 1 c, iOp 5] ++ eachI 1 5 l).length = p + 2 + (eachI 1 5 l).length := by simp; omega
      rw [e] at hc; exact hc
    have h1 := sg_read (code := code) (off := p) 1 (.inl rfl) (hl c List.mem_cons_self) i1
    show Runs _ _ (bindA (bindE (readA ⟨c, false⟩) _) k)
    unfold bindE readA
    rw [bind_assoc, bind_ask]
    simp only [bind_ret]
    refine runs_ask (m' := ⟨code, p + 1, S ++ [v], G⟩) (nd := ⟨c, false⟩) ?_ (hl c List.mem_cons_self) (n := n + l.length) ?_
    · rw [step_top i1 h4]
      simp [stepM, iRead]
    · intro x hx
      show Runs (n + l.length) ⟨code, p + 1, S ++ [v] ++ [x], G⟩ _
      by_cases hx4 : x.k = 4
      · simp only [if_pos hx4]
        rw [bind_ret]
        exact (hc.err hx hx4 (p + 1) [v]).le (by omega)
      · simp only [if_neg hx4]
        refine runs_step (m' := ⟨code, p + 2, S ++ [vAdd v x], G⟩) ?_ ?_
        · rw [step_top i2 hx4]
          simp [stepM, iOp, comb]
        · by_cases ha : (vAdd v x).k = 4
          · simp only [if_pos ha]
            rw [bind_ret]
            have := (hc.err (ok_add v x) ha (p + 2) []).le (Nat.le_add_right n l.length)
            simpa using this
          · simp only [if_neg ha]
            exact run_sum l (p + 2) _ (fun c hc => hl c (List.mem_cons_of_mem _ hc)) hs.right (ok_add v x) ha S G n k hS hc'
theorem run_cnt : ∀ (l : List Nat) (p : Nat) (v : V), (∀ c ∈ l, c < 48) → Sits code p (eachI 2 12 l) → OKV v → v.k ≠ 4 → ∀ S G n k, NF S → Cont n code (p + (eachI 2 12 l).length) S G k → Runs (n + l.length) ⟨code, p, S ++ [v], G⟩ (bindA (cntA l v) k)
  | [], p, v, _, _, hv, _, S, G, n, k, _, hc => by
    exact run_ret (by simpa [eachI] using hc) hv
  | c :: l, p, v, hl, hs, hv, h4, S, G, n, k, hS, hc => by
    have es : eachI 2 12 (c :: l) = [iRead 2 c, iOp 12] ++ eachI 2 12 l := rfl
    rw [es] at hs hc
    have i1 := hs.left.one
    have i2 : code[p + 1]? = some (iOp 12) := (Sits.right (a := [iRead 2 c]) (b := [iOp 12]) hs.left).one
    have hc' : Cont n code (p + 2 + (eachI 2 12 l).length) S G k := by
      have e : p + ([iRead 2 c, iOp 12] ++ eachI 2 12 l).length = p + 2 + (eachI 2 12 l).length := by simp; omega
      rw [e] at hc; exact hc
    show Runs _ _ (bindA (bindE (readA ⟨c, true⟩) _) k)
    unfold bindE readA
    rw [bind_assoc, bind_ask]
    simp only [bind_ret]
    refine runs_ask (m' := ⟨code, p + 1, S ++ [v], G⟩) (nd := ⟨c, true⟩) ?_ (hl c List.mem_cons_self) (n := n + l.length) ?_
    · rw [step_top i1 h4]
      simp [stepM, iRead]
    · intro x hx
      show Runs (n + l.length) ⟨code, p + 1, S ++ [v] ++ [x], G⟩ _
      by_cases hx4 : x.k = 4
      · simp only [if_pos hx4]
        rw [bind_ret]
        exact (hc.err hx hx4 (p + 1) [v]).le (by omega)
      · simp only [if_neg hx4]
        by_cases h1 : x.k = 1
        · simp only [if_pos h1]
          refine runs_step (m' := ⟨code, p + 2, S ++ [vAdd v (vI 1)], G⟩) ?_ ?_
          · rw [step_top i2 hx4]
            simp [stepM, iOp, h1]
          · by_cases ha : (vAdd v (vI 1)).k = 4
            · simp only [if_pos ha]
              rw [bind_ret]
              have := (hc.err (ok_add v (vI 1)) ha (p + 2) []).le (Nat.le_add_right n l.length)
              simpa using this
            · simp only [if_neg ha]
              exact run_cnt l (p + 2) _ (fun c hc => hl c (List.mem_cons_of_mem _ hc)) hs.right (ok_add v (vI 1)) ha S G n k hS hc'
        · simp only [if_neg h1, if_neg h4]
          refine runs_step (m' := ⟨code, p + 2, S ++ [v], G⟩) ?_ (run_cnt l (p + 2) _ (fun c hc => hl c (List.mem_cons_of_mem _ hc)) hs.right hv h4 S G n k hS hc')
          rw [step_top i2 hx4]
          simp [stepM, iOp, h1]
end
theorem rangeL_lt {a b : Nat} (ha : a < 48) (hb : b < 48) : ∀ c ∈ rangeL a b, c < 48 := by
  intro c hc
  unfold rangeL at hc
  rw [List.mem_flatMap] at hc
  obtain ⟨row, h1, h2⟩ := hc
  rw [List.mem_map] at h2
  obtain ⟨col, h3, rfl⟩ := h2
  rw [List.mem_range'_1] at h1 h3
  omega

theorem bind_some {α β : Type} {x : Option α} {g : α → Option β} {b : β} (h : x.bind g = some b) : ∃ a, x = some a ∧ g a = some b := by
  cases x with
  | none => cases h
  | some a => exact ⟨a, rfl, h⟩
theorem signs_op {lv : Nat} {q : Int} (h : q ∈ signs lv) : 5 ≤ signOp q ∧ signOp q ≤ 11 := by
  unfold signOp
  repeat' split
  all_goals omega
/-- What was turned into instructions does what it says. (The row's part that is there is such, and stands there.) -/
theorem cmp_sg (code : List Ins) : ∀ (f tag off : Nat) (s : List Ins) (d : Beh) (ts : List Tk) (seg : List Ins) (d' : Beh) (rest : List Tk), tag < 7 → cmp f tag off s d ts = some (seg, d', rest) →
    (3 < tag → Sits code off seg → Sits code off s → Sg code off (off + s.length) d) → Sits code off seg → (3 < tag → ∃ t, seg = s ++ t) ∧ Sg code off (off + seg.length) d'
  | 0, _, _, _, _, _, _, _, _, _, h, _, _ => by simp [cmp] at h
  | f + 1, tag, off, s, d, ts, seg, d', rest, htag, h, hp, hs => by
    have ih := cmp_sg code f
    rw [cmp] at h
    by_cases h3 : tag < 3
    · rw [if_pos h3] at h
      obtain ⟨x, hx, h⟩ := bind_some h
      obtain ⟨s1, d1, r1⟩ := x
      obtain ⟨i1, i2⟩ := ih (tag + 4) off s1 d1 r1 seg d' rest (by omega) h (fun _ _ hs1 => (ih (tag + 1) off _ _ ts s1 d1 r1 (by omega) hx (fun e => absurd e (by omega)) hs1).2) hs
      exact ⟨fun e => absurd e (by omega), i2⟩
    rw [if_neg h3] at h
    by_cases t3 : tag = 3
    · rw [if_pos t3] at h
      refine ⟨fun e => absurd e (by omega), ?_⟩
      by_cases k23 : hk ts = 23
      · rw [if_pos k23] at h
        obtain ⟨⟨s1, d1, r1⟩, hx, h⟩ := bind_some h
        cases h
        have j := (ih 3 off _ _ _ s1 d1 r1 (by omega) hx (fun e => absurd e (by omega)) hs.left).2
        rw [List.length_append, List.length_singleton, ← Nat.add_assoc]
        exact sg_neg j hs.right.one
      rw [if_neg k23] at h
      by_cases k1 : hk ts = 1
      · rw [if_pos k1] at h
        split at h
        · rename_i hv
          cases h
          exact sg_put (ok_i (by unfold I64; omega)) hs.one
        · cases h
      rw [if_neg k1] at h
      by_cases k2 : hk ts = 2
      · rw [if_pos k2] at h
        cases h
        exact sg_put (ok_t _) hs.one
      rw [if_neg k2] at h
      by_cases k3 : hk ts = 3 ∨ hk ts = 4
      · rw [if_pos k3] at h
        cases h
        exact sg_put (ok_b _) hs.one
      rw [if_neg k3] at h
      by_cases k5 : hk ts = 5
      · rw [if_pos k5] at h
        obtain ⟨c, hc, h⟩ := bind_some h
        cases h
        exact sg_read 1 (.inl rfl) (cellN_lt hc) hs.one
      rw [if_neg k5] at h
      by_cases k12 : hk ts = 12
      · rw [if_pos k12] at h
        obtain ⟨⟨s1, d1, r1⟩, hx, h⟩ := bind_some h
        cases h
        exact (ih 0 off _ _ _ _ _ r1 (by omega) hx (fun e => absurd e (by omega)) hs).2
      rw [if_neg k12] at h
      by_cases k6 : hk ts = 6
      · rw [if_pos k6] at h
        obtain ⟨⟨s1, d1, r1⟩, hx, h⟩ := bind_some h
        obtain ⟨⟨s2, d2, r2⟩, hy, h⟩ := bind_some h
        obtain ⟨⟨s3, d3, r3⟩, hz, h⟩ := bind_some h
        cases h
        dsimp only at hs hy hz ⊢
        have e1 : ∀ (i : Ins) (l : List Ins), i :: l = [i] ++ l := fun _ _ => rfl
        have p2 : Sits code (off + s1.length + 1) (s2 ++ (iTo 14 (off + s1.length + 1 + s2.length + 1 + s3.length) :: s3)) := by
          have := hs.right; rw [e1] at this; exact this.right
        have p3 : Sits code (off + s1.length + 1 + s2.length + 1) s3 := by
          have := p2.right; rw [e1] at this; exact this.right
        have j1 := (ih 0 off _ _ _ s1 d1 r1 (by omega) hx (fun e => absurd e (by omega)) hs.left).2
        have j2 := (ih 0 _ _ _ _ s2 d2 r2 (by omega) hy (fun e => absurd e (by omega)) p2.left).2
        have j3 := (ih 0 _ _ _ _ s3 d3 r3 (by omega) hz (fun e => absurd e (by omega)) p3).2
        have := sg_if (t1 := 0) (t2 := 0) j1 hs.right.one j2 p2.right.one j3
        have el : off + (s1 ++ iTo 13 (off + s1.length + 1 + s2.length + 1) :: (s2 ++ iTo 14 (off + s1.length + 1 + s2.length + 1 + s3.length) :: s3)).length = off + s1.length + 1 + s2.length + 1 + s3.length := by simp; omega
        rw [el]; exact this
      rw [if_neg k6] at h
      by_cases k7 : hk ts = 7
      · rw [if_pos k7] at h
        obtain ⟨⟨s1, d1, r1⟩, hx, h⟩ := bind_some h
        cases h
        have j := (ih 0 off _ _ _ s1 d1 r1 (by omega) hx (fun e => absurd e (by omega)) hs.left).2
        rw [List.length_append, List.length_singleton, ← Nat.add_assoc]
        exact sg_at j hs.right.one
      rw [if_neg k7] at h
      by_cases k8 : hk ts = 8
      · rw [if_pos k8] at h
        obtain ⟨⟨s1, d1, r1⟩, hx, h⟩ := bind_some h
        cases h
        dsimp only at hs hx ⊢
        have p1 : Sits code (off + 1) (s1 ++ [iOp 16]) := Sits.right (a := [_]) hs
        have j := (ih 0 (off + 1) _ _ _ s1 d1 r1 (by omega) hx (fun e => absurd e (by omega)) p1.left).2
        have := sg_bad hs.one j p1.right.one
        have el : off + (iTo 15 (off + 1 + s1.length + 1) :: (s1 ++ [iOp 16])).length = off + 1 + s1.length + 1 := by simp; omega
        rw [el]; exact this
      rw [if_neg k8] at h
      by_cases k9 : hk ts = 9 ∨ hk ts = 10
      · rw [if_pos k9] at h
        obtain ⟨a, ha, h⟩ := bind_some h
        obtain ⟨b, hb, h⟩ := bind_some h
        cases h
        have hl := rangeL_lt (cellN_lt ha) (cellN_lt hb)
        by_cases k : hk ts = 9
        · simp only [if_pos k] at hs ⊢
          refine ⟨(rangeL a b).length, fun S G n k hS hc => ?_⟩
          refine runs_step (m' := ⟨code, off + 1, S ++ [vI 0], G⟩) ?_ (run_sum (rangeL a b) (off + 1) (vI 0) hl (Sits.right (a := [_]) hs) okv_zero (by unfold vI; decide) S G n k hS (by rw [List.length_cons, ← Nat.add_assoc, Nat.add_right_comm] at hc; exact hc))
          rw [head_at hs.one hS.fail]
          rfl
        · simp only [if_neg k] at hs ⊢
          refine ⟨(rangeL a b).length, fun S G n k hS hc => ?_⟩
          refine runs_step (m' := ⟨code, off + 1, S ++ [vI 0], G⟩) ?_ (run_cnt (rangeL a b) (off + 1) (vI 0) hl (Sits.right (a := [_]) hs) okv_zero (by unfold vI; decide) S G n k hS (by rw [List.length_cons, ← Nat.add_assoc, Nat.add_right_comm] at hc; exact hc))
          rw [head_at hs.one hS.fail]
          rfl
      rw [if_neg k9] at h
      cases h
    rw [if_neg t3] at h
    by_cases hq : hk ts ∈ signs (tag - 4)
    · rw [if_pos hq] at h
      obtain ⟨⟨s1, d1, r1⟩, hx, h⟩ := bind_some h
      dsimp only at h
      have main := ih tag off (s ++ (s1 ++ [iOp (signOp (hk ts))])) (binA (signOp (hk ts)) d d1) r1 seg d' rest htag h (fun _ hseg hs1 => by
        have j1 := hp (by omega) hs hs1.left
        have j2 := (ih (tag - 3) (off + s.length) _ _ _ s1 d1 r1 (by omega) hx (fun e => absurd e (by omega)) hs1.right.left).2
        have := sg_bin j1 j2 (signs_op hq) hs1.right.right.one
        have el : off + (s ++ (s1 ++ [iOp (signOp (hk ts))])).length = off + s.length + s1.length + 1 := by simp; omega
        rw [el]; exact this) hs
      refine ⟨fun e => ?_, main.2⟩
      obtain ⟨t, ht⟩ := main.1 e
      exact ⟨s1 ++ [iOp (signOp (hk ts))] ++ t, by rw [ht]; simp⟩
    · rw [if_neg hq] at h
      cases h
      exact ⟨fun _ => ⟨[], by simp⟩, hp (by omega) hs hs⟩
/-- A whole formula. -/
theorem cmp_runs {f : Nat} {ts rest : List Tk} {code : List Ins} {d : Beh} (h : cmp f 0 0 [] (retA vN) ts = some (code, d, rest)) : ∃ n, Runs n ⟨code, 0, [], []⟩ (bindA d retA) := by
  obtain ⟨_, m, hm⟩ := cmp_sg code f 0 0 [] (retA vN) ts code d rest (by omega) h (fun e => absurd e (by omega)) ⟨[], [], by simp, rfl⟩
  have := hm [] [] 0 retA (by intro v hv; cases hv) ⟨fun v hv h4 => ?_, fun v hv h4 p T => ?_⟩
  · exact ⟨_, this⟩
  · refine ⟨1, ⟨code, 0 + code.length, [] ++ [v], []⟩, v, ?_, List.getLast?_concat, hv, rfl⟩
    rw [goM]
    unfold headM
    rw [if_neg (by unfold failB; simp [h4])]
    simp
  · refine ⟨1, ⟨code, p, [] ++ T ++ [v], []⟩, v, ?_, List.getLast?_concat, hv, rfl⟩
    rw [goM]
    unfold headM
    rw [if_pos (by unfold failB; simp [h4])]
    simp
end Go.Proofs.YtiocnfambeochaaGreatDoor

/- Plain mathematics: one working out of a sheet, as the program goes about it: the state of its cells, what a cell's turn does, and what stays true of it. No program stands in it. -/
set_option linter.unusedVariables false
set_option linter.unusedSimpArgs false
namespace Go.Proofs.YtiocnfambeochaaGreatDoor

/-- An answer: a formula, what it read, its value. -/
structure Ans where
  f : ByteArray
  rs : List Rd
  v : V
def ans0 : Ans := ⟨eB, [], vN⟩
/-- The store. -/
structure Sto where
  places : Nat
  size : Nat
  next : Nat
  kept : List Ans
def Sto.add (s : Sto) (a : Ans) : Sto := if s.places = 0 then s else ⟨s.places, min (s.size + 1) s.places, (s.next + 1) % s.places, s.kept.set s.next a⟩
def Sto.has (s : Sto) : List Ans := s.kept.take s.size
/-- A store as it may be. -/
structure SW (s : Sto) : Prop where
  len : s.kept.length = 64
  places : s.places ≤ 64
  size : s.size ≤ s.places
  next : s.places ≠ 0 → s.next < s.places
  open' : s.size < s.places → s.next = s.size
def Sto.of (s : Sto) (f : ByteArray) : List Ans := s.has.filter (fun a => decide (a.f = f))
/-- What is done for one cell: 0 fresh, 1 it tries, 2 begun (d: what is left of its formula), 3 settled. -/
structure Tsk where
  st : Nat
  wt : Int
  kn : List Ans
  held : Nat
  d : Beh
  an : Ans
structure Rn where
  fs : Nat → ByteArray
  last : Nat → Ans
  store : Sto
  way : Nat
  tk : Nat → Tsk
  bg : List Nat
/-- What a working out begins with, and what does not change in it. -/
structure Con extends Sto where
  fs : Nat → ByteArray
  last : Nat → Ans
  way : Nat
/-- What formulas do, how many cells they read at most, who waits for whom. -/
structure Env where
  D : ByteArray → Beh
  B : ByteArray → Nat
  W : (Nat → Int) → Nat → Nat → Bool

def Rn.put (r : Rn) (c : Nat) (t : Tsk) : Rn := { r with tk := fun i => if i = c then t else r.tk i }
def Rn.wts (r : Rn) : Nat → Int := fun i => (r.tk i).wt
def settle (r : Rn) (c : Nat) (a : Ans) : Rn := r.put c ⟨3, -1, [], 0, retA vN, a⟩
def stays (r : Rn) (c : Nat) : Bool := decide ((r.last c).f = r.fs c) && !(r.last c).v.eqB cyc
def known (r : Rn) (c : Nat) : List Ans :=
  if r.way = 0 then [] else (if stays r c = true then [r.last c] else []) ++ (if r.way = 2 then r.store.of (r.fs c) else [])

def look (E : Env) (r : Rn) (c o : Nat) : Rn × Option V :=
  if (r.tk o).st = 3 then (r, some (r.tk o).an.v)
  else if E.W r.wts o c = true then (r, some cyc)
  else (r.put c { r.tk c with wt := o }, none)
/-- The reads that are left of the first answer. -/
def tryR (E : Env) (c : Nat) : List Rd → Rn → Rn × Option Bool
  | [], r => (r, some true)
  | x :: l, r =>
    match look E r c x.nd.c with
    | (r', none) => (r', none)
    | (r', some v) => if (see x.nd v).eqB x.w = true then tryR E c l (r'.put c { r'.tk c with held := (r'.tk c).held + 1 }) else (r', some false)
def tryK (E : Env) (c : Nat) : List Ans → Rn → Rn × Bool
  | [], r => (r, true)
  | a :: l, r =>
    match tryR E c (a.rs.drop (r.tk c).held) r with
    | (r', none) => (r', false)
    | (r', some true) => (settle r' c a, true)
    | (r', some false) => tryK E c l (r'.put c { r'.tk c with kn := l, held := 0 })
def beginP (E : Env) (r : Rn) (c : Nat) : Rn :=
  { r.put c { r.tk c with st := 2, d := E.D (r.fs c), an := ⟨r.fs c, [], vN⟩ } with bg := r.bg ++ [c] }
def runP (E : Env) (c : Nat) : Nat → Rn → Rn
  | 0, r => r
  | n + 1, r =>
    match (r.tk c).d [] with
    | .inl v => settle { r with store := r.store.add { (r.tk c).an with v := v } } c { (r.tk c).an with v := v }
    | .inr nd =>
      match look E r c nd.c with
      | (r', none) => r'
      | (r', some v) =>
        if v.eqB cyc = true then settle r' c ⟨r'.fs c, [], v⟩
        else runP E c n (r'.put c { r'.tk c with d := fun l => (r'.tk c).d (see nd v :: l), an := { (r'.tk c).an with rs := (r'.tk c).an.rs ++ [⟨nd, see nd v⟩] } })
def runT (E : Env) (r : Rn) (c : Nat) : Rn × Int × Bool :=
  let r' := runP E c (E.B (r.fs c) + 1) r
  (r', (r'.tk c).wt, decide ((r'.tk c).st = 3))
def tryT (E : Env) (r : Rn) (c : Nat) : Rn × Int × Bool :=
  match tryK E c (r.tk c).kn r with
  | (r', false) => (r', (r'.tk c).wt, false)
  | (r', true) => if (r'.tk c).st = 3 then (r', -1, true) else runT E (beginP E r' c) c
def freshP (r : Rn) (c : Nat) : Rn := r.put c { r.tk c with kn := (r.tk c).kn ++ known r c, st := 1 }
def turnP (E : Env) (r : Rn) (c : Nat) : Rn × Int × Bool :=
  if (r.tk c).st = 0 then tryT E (freshP r c) c
  else if (r.tk c).st = 1 then tryT E r c
  else if (r.tk c).st = 2 then runT E r c
  else (r, (r.tk c).wt, decide ((r.tk c).st = 3))
def leaveP (r : Rn) (c : Nat) : Rn := r.put c { r.tk c with st := 0 }

/-- An answer that may be. -/
def VA (E : Env) (a : Ans) : Prop := a.f ≠ eB ∧ Tr (E.D a.f) a.rs ∧ E.D a.f (ws a.rs) = .inl a.v ∧ ∀ x ∈ a.rs, x.w ≠ cyc ∧ x.nd.c < 48
/-- Where an answer comes from. -/
def Org (S0 : Con) (r : Rn) (cs : List Nat) (c : Nat) (a : Ans) : Prop := (stays r c = true ∧ a = r.last c) ∨ a ∈ S0.has ∨ ∃ c' ∈ cs, a = (r.tk c').an
structure SetOK (E : Env) (val : Nat → V) (r : Rn) (c : Nat) : Prop where
  wt : (r.tk c).wt = -1
  f : (r.tk c).an.f = r.fs c
  v : (r.tk c).an.v = val c
  good : r.fs c ≠ eB → val c ≠ cyc → VA E (r.tk c).an ∧ Hold val (r.tk c).an.rs
  none : r.fs c = eB → (r.tk c).an = ans0
structure UnsOK (E : Env) (val : Nat → V) (S0 : Con) (r : Rn) (cs : List Nat) (c : Nat) : Prop where
  f : r.fs c ≠ eB
  lt : c < 48
  kn : ∀ a ∈ (r.tk c).kn, VA E a ∧ a.f = r.fs c ∧ Org S0 r cs c a
  held : ∀ a l, (r.tk c).kn = a :: l → (r.tk c).held ≤ a.rs.length ∧ Hold val (a.rs.take (r.tk c).held)
  held0 : (r.tk c).kn = [] → (r.tk c).held = 0
  run : (r.tk c).st = 2 → (r.tk c).an.f = r.fs c ∧ Tr (E.D (r.fs c)) (r.tk c).an.rs ∧ Hold val (r.tk c).an.rs ∧ (r.tk c).d = (fun l => E.D (r.fs c) (ws (r.tk c).an.rs ++ l)) ∧ (r.tk c).kn = [] ∧ c ∈ r.bg
def EndW (wt : Nat → Int) : Prop := ∀ x : Nat, ∃ n, along wt n x = -1
def RightW (E : Env) : Prop := ∀ wt, EndW wt → ∀ o c : Nat, (E.W wt o c = true ↔ ∃ m, along wt m o = c)
structure Inv (E : Env) (val : Nat → V) (S0 : Con) (Cl : Nat → Prop) (X : Nat → Ans → Prop) (r : Rn) (cs : List Nat) : Prop where
  hv : ∀ c, Val E.D r.fs c (val c)
  fit : ∀ c, r.fs c ≠ eB → ActN (E.B (r.fs c)) (E.D (r.fs c))
  con : r.fs = S0.fs ∧ r.last = S0.last ∧ r.way = S0.way
  st : ∀ c, (r.tk c).st ≤ 3
  sett : ∀ c, (r.tk c).st = 3 → SetOK E val r c
  uns : ∀ c, (r.tk c).st ≠ 3 → UnsOK E val S0 r cs c
  wt : ∀ c : Nat, -1 ≤ (r.tk c).wt ∧ (0 ≤ (r.tk c).wt → Needs E.D r.fs c (r.tk c).wt.toNat ∧ (r.tk c).wt.toNat < 48)
  ends : EndW r.wts
  sto : r.store = (cs.map fun c => (r.tk c).an).foldl Sto.add S0.toSto
  sw : SW r.store
  stoOK : ∀ a ∈ r.store.has, VA E a ∧ (a ∈ S0.has ∨ ∃ c' ∈ cs, a = (r.tk c').an)
  lastOK : ∀ c, stays r c = true → r.fs c ≠ eB → VA E (r.last c)
  nodup : cs.Nodup
  csOK : ∀ c ∈ cs, (r.tk c).st = 3 ∧ c ∈ r.bg
  bg : ∀ c ∈ r.bg, r.fs c ≠ eB ∧ c < 48 ∧ ¬ Cl c
  bgE : r.bg = [] → cs = []
  done : ∀ c, (r.tk c).st = 3 → r.fs c ≠ eB → (val c = cyc ∧ c ∈ r.bg) ∨ Cl c ∨ ∃ a, a.f = r.fs c ∧ Hold val a.rs ∧ Org S0 r cs c a
  cl : ∀ c, (r.tk c).st ≠ 3 → ¬ Cl c
  x : ∀ c a, X c a → c ∉ r.bg ∧ (r.tk c).st ≠ 2 ∧ ((r.tk c).st = 1 → a ∈ (r.tk c).kn)
/-- The answers of X are known whenever the cell's turn comes, and hold. -/
def XK (E : Env) (val : Nat → V) (S0 : Con) (Cl : Nat → Prop) (X : Nat → Ans → Prop) : Prop :=
  ∀ r cs, Inv E val S0 Cl X r cs → ∀ c a, X c a → Hold val a.rs ∧ ((r.tk c).st ≠ 3 → a ∈ known r c)

theorem put_same (r : Rn) (c : Nat) (t : Tsk) : (r.put c t).tk c = t := by simp [Rn.put]
theorem put_ne (r : Rn) (c : Nat) (t : Tsk) {i : Nat} (h : i ≠ c) : (r.put c t).tk i = r.tk i := by simp [Rn.put, h]
theorem put_put (r : Rn) (c : Nat) (t u : Tsk) : (r.put c t).put c u = r.put c u := by
  unfold Rn.put
  congr 1
  funext i
  by_cases h : i = c <;> simp [h]
theorem put_self (r : Rn) (c : Nat) : r.put c (r.tk c) = r := by
  unfold Rn.put
  cases r
  congr 1
  funext i
  by_cases h : i = c <;> simp [h]
theorem stays_put (r : Rn) (c : Nat) (t : Tsk) (i : Nat) : stays (r.put c t) i = stays r i := rfl
theorem known_put (r : Rn) (c : Nat) (t : Tsk) (i : Nat) : known (r.put c t) i = known r i := rfl

/-- One cell's wait is turned: all still come to an end if that one does. -/
theorem endW_upd {wt wt' : Nat → Int} {c : Nat} (h : EndW wt) (hne : ∀ i, i ≠ c → wt' i = wt i) (hc : ∃ n, along wt' n c = -1) : EndW wt' := by
  have neg : ∀ (w : Nat → Int) (n : Nat), along w n (-1) = -1 := by
    intro w n
    induction n with
    | zero => rfl
    | succ n ih => exact ih
  intro x
  obtain ⟨n, hn⟩ := h x
  induction n generalizing x with
  | zero => exact absurd (show (x : Int) = -1 from hn) (by omega)
  | succ n ih =>
    by_cases hx : x = c
    · rw [hx]; exact hc
    · have hn : along wt n (if 0 ≤ (x : Int) then wt (x : Int).toNat else -1) = -1 := hn
      rw [if_pos (by omega), Int.toNat_natCast] at hn
      by_cases h0 : 0 ≤ wt x
      · obtain ⟨m, hm⟩ := ih (wt x).toNat (by rw [Int.toNat_of_nonneg h0]; exact hn)
        refine ⟨m + 1, ?_⟩
        show along wt' m (if 0 ≤ (x : Int) then wt' (x : Int).toNat else -1) = -1
        rw [if_pos (by omega), Int.toNat_natCast, hne x hx, ← Int.toNat_of_nonneg h0]
        exact hm
      · refine ⟨1 + 1, ?_⟩
        show (if 0 ≤ (if 0 ≤ (x : Int) then wt' (x : Int).toNat else -1) then wt' (if 0 ≤ (x : Int) then wt' (x : Int).toNat else -1).toNat else -1) = -1
        rw [if_pos (show 0 ≤ (x : Int) by omega), Int.toNat_natCast, hne x hx, if_neg h0]
theorem endW_none {wt wt' : Nat → Int} {c : Nat} (h : EndW wt) (hne : ∀ i, i ≠ c → wt' i = wt i) (hc : wt' c = -1) : EndW wt' := by
  refine endW_upd h hne ⟨1, ?_⟩
  show (if 0 ≤ (c : Int) then wt' (c : Int).toNat else -1) = -1
  rw [if_pos (by omega), Int.toNat_natCast, hc]
theorem along_same {wt wt' : Nat → Int} {c : Nat} (hne : ∀ i, i ≠ c → wt' i = wt i) : ∀ (n : Nat) (x : Int), (¬ ∃ m, along wt m x = c) → along wt' n x = along wt n x
  | 0, _, _ => rfl
  | n + 1, x, h => by
    show along wt' n (if 0 ≤ x then wt' x.toNat else -1) = along wt n (if 0 ≤ x then wt x.toNat else -1)
    by_cases h0 : 0 ≤ x
    · rw [if_pos h0, if_pos h0]
      have hx : x.toNat ≠ c := by
        intro e; exact h ⟨0, by show x = c; omega⟩
      rw [hne _ hx]
      refine along_same hne n _ fun ⟨m, hm⟩ => h ⟨m + 1, ?_⟩
      show along wt m (if 0 ≤ x then wt x.toNat else -1) = c
      rw [if_pos h0]; exact hm
    · rw [if_neg h0, if_neg h0]
      refine along_same hne n _ fun ⟨m, hm⟩ => ?_
      have : ∀ m, along wt m (-1) = -1 := by
        intro m
        induction m with
        | zero => rfl
        | succ m ih => exact ih
      rw [this m] at hm
      omega
theorem endW_wait {wt wt' : Nat → Int} {c o : Nat} (h : EndW wt) (hne : ∀ i, i ≠ c → wt' i = wt i) (hc : wt' c = o) (hno : ¬ ∃ m, along wt m o = c) : EndW wt' := by
  obtain ⟨n, hn⟩ := h o
  refine endW_upd h hne ⟨n + 1, ?_⟩
  show along wt' n (if 0 ≤ (c : Int) then wt' (c : Int).toNat else -1) = -1
  rw [if_pos (by omega), Int.toNat_natCast, hc, along_same hne n o hno]
  exact hn

section
variable {E : Env} {val : Nat → V} {S0 : Con} {Cl : Nat → Prop} {X : Nat → Ans → Prop} {r : Rn} {cs : List Nat} {c : Nat}
theorem Inv.Fit (h : Inv E val S0 Cl X r cs) : Fit E.D r.fs := fun c h0 => ⟨_, h.fit c h0⟩
theorem Inv.notcs (h : Inv E val S0 Cl X r cs) (hc : (r.tk c).st ≠ 3) : c ∉ cs := fun hm => hc (h.csOK c hm).1
theorem Org.put {a : Ans} {i : Nat} (t : Tsk) (hc : c ∉ cs) (h : Org S0 r cs i a) : Org S0 (r.put c t) cs i a := by
  rcases h with h | h | ⟨c', h1, h2⟩
  · exact .inl h
  · exact .inr (.inl h)
  · have hne : c' ≠ c := fun e => hc (e ▸ h1)
    refine .inr (.inr ⟨c', h1, ?_⟩)
    rw [put_ne _ _ _ hne]; exact h2
theorem UnsOK.put {i : Nat} (t : Tsk) (hc : c ∉ cs) (hi : i ≠ c) (h : UnsOK E val S0 r cs i) : UnsOK E val S0 (r.put c t) cs i where
  f := h.f
  lt := h.lt
  kn := by rw [put_ne _ _ _ hi]; exact fun a ha => ⟨(h.kn a ha).1, (h.kn a ha).2.1, (h.kn a ha).2.2.put t hc⟩
  held := by rw [put_ne _ _ _ hi]; exact h.held
  held0 := by rw [put_ne _ _ _ hi]; exact h.held0
  run := by rw [put_ne _ _ _ hi]; exact h.run
theorem SetOK.put {i : Nat} (t : Tsk) (hi : i ≠ c) (h : SetOK E val r i) : SetOK E val (r.put c t) i where
  wt := by rw [put_ne _ _ _ hi]; exact h.wt
  f := by rw [put_ne _ _ _ hi]; exact h.f
  v := by rw [put_ne _ _ _ hi]; exact h.v
  good := by rw [put_ne _ _ _ hi]; exact h.good
  none := by rw [put_ne _ _ _ hi]; exact h.none
/-- A cell that is not settled is turned into another that is not. -/
theorem Inv.put (h : Inv E val S0 Cl X r cs) (hc : (r.tk c).st ≠ 3) (t : Tsk) (h3 : t.st < 3) (hu : UnsOK E val S0 (r.put c t) cs c)
    (hw : -1 ≤ t.wt ∧ (0 ≤ t.wt → Needs E.D r.fs c t.wt.toNat ∧ t.wt.toNat < 48)) (he : EndW (r.put c t).wts) (hx : ∀ a, X c a → t.st ≠ 2 ∧ (t.st = 1 → a ∈ t.kn)) : Inv E val S0 Cl X (r.put c t) cs := by
  have hn := h.notcs hc
  have hcs : ∀ c' ∈ cs, (r.put c t).tk c' = r.tk c' := fun c' hm => put_ne _ _ _ (fun e => hn (e ▸ hm))
  refine { hv := h.hv, fit := h.fit, con := h.con, st := ?_, sett := ?_, uns := ?_, wt := ?_, ends := he, sto := ?_, sw := h.sw, stoOK := ?_, lastOK := h.lastOK, nodup := h.nodup, csOK := ?_, bg := h.bg, bgE := h.bgE, done := ?_, cl := ?_, x := ?_ }
  · intro i
    by_cases hi : i = c
    · subst hi; rw [put_same]; omega
    · rw [put_ne _ _ _ hi]; exact h.st i
  · intro i
    by_cases hi : i = c
    · subst hi; rw [put_same]; intro e; omega
    · rw [put_ne _ _ _ hi]; intro e; exact (h.sett i e).put t hi
  · intro i
    by_cases hi : i = c
    · subst hi; intro _; exact hu
    · rw [put_ne _ _ _ hi]; intro e; exact (h.uns i e).put t hn hi
  · intro i
    by_cases hi : i = c
    · subst hi; rw [put_same]; exact hw
    · rw [put_ne _ _ _ hi]; exact h.wt i
  · show r.store = _
    rw [h.sto]
    congr 1
    exact List.map_congr_left fun c' hm => by rw [hcs c' hm]
  · intro a ha
    obtain ⟨h1, h2⟩ := h.stoOK a ha
    refine ⟨h1, ?_⟩
    rcases h2 with h2 | ⟨c', h2, h4⟩
    · exact .inl h2
    · exact .inr ⟨c', h2, by rw [hcs c' h2]; exact h4⟩
  · intro c' hm
    rw [hcs c' hm]; exact h.csOK c' hm
  · intro i
    by_cases hi : i = c
    · subst hi; rw [put_same]; intro e; omega
    · rw [put_ne _ _ _ hi]
      intro e f
      rcases h.done i e f with g | g | ⟨a, g1, g2, g3⟩
      · exact .inl g
      · exact .inr (.inl g)
      · exact .inr (.inr ⟨a, g1, g2, g3.put t hn⟩)
  · intro i
    by_cases hi : i = c
    · subst hi; intro _; exact h.cl _ hc
    · rw [put_ne _ _ _ hi]; exact h.cl i
  · intro i a hxa
    by_cases hi : i = c
    · subst hi; rw [put_same]; exact ⟨(h.x _ a hxa).1, hx a hxa⟩
    · rw [put_ne _ _ _ hi]; exact h.x i a hxa
/-- A cell that is not settled is settled, by an answer that is known. -/
theorem Inv.settled (h : Inv E val S0 Cl X r cs) (hc : (r.tk c).st ≠ 3) (a : Ans) (hf : a.f = r.fs c) (hv : a.v = val c) (hg : val c ≠ cyc → VA E a ∧ Hold val a.rs)
    (hd : (val c = cyc ∧ c ∈ r.bg) ∨ ∃ a, a.f = r.fs c ∧ Hold val a.rs ∧ Org S0 r cs c a) : Inv E val S0 Cl X (settle r c a) cs := by
  have hn := h.notcs hc
  have hcs : ∀ c' ∈ cs, (Go.Proofs.YtiocnfambeochaaGreatDoor.settle r c a).tk c' = r.tk c' := fun c' hm => put_ne _ _ _ (fun e => hn (e ▸ hm))
  refine { hv := h.hv, fit := h.fit, con := h.con, st := ?_, sett := ?_, uns := ?_, wt := ?_, ends := ?_, sto := ?_, sw := h.sw, stoOK := ?_, lastOK := h.lastOK, nodup := h.nodup, csOK := ?_, bg := h.bg, bgE := h.bgE, done := ?_, cl := ?_, x := ?_ }
  · intro i
    by_cases hi : i = c
    · subst hi; unfold Go.Proofs.YtiocnfambeochaaGreatDoor.settle; rw [put_same]; exact Nat.le_refl _
    · unfold Go.Proofs.YtiocnfambeochaaGreatDoor.settle; rw [put_ne _ _ _ hi]; exact h.st i
  · intro i
    by_cases hi : i = c
    · subst hi
      intro _
      unfold Go.Proofs.YtiocnfambeochaaGreatDoor.settle
      exact { wt := by rw [put_same], f := by rw [put_same]; exact hf, v := by rw [put_same]; exact hv, good := fun _ g => by rw [put_same]; exact hg g, none := fun e => absurd e (h.uns _ hc).f }
    · unfold Go.Proofs.YtiocnfambeochaaGreatDoor.settle; rw [put_ne _ _ _ hi]; intro e; exact (h.sett i e).put _ hi
  · intro i
    by_cases hi : i = c
    · subst hi; unfold Go.Proofs.YtiocnfambeochaaGreatDoor.settle; rw [put_same]; intro e; exact absurd rfl e
    · unfold Go.Proofs.YtiocnfambeochaaGreatDoor.settle; rw [put_ne _ _ _ hi]; intro e; exact (h.uns i e).put _ hn hi
  · intro i
    by_cases hi : i = c
    · subst hi; unfold Go.Proofs.YtiocnfambeochaaGreatDoor.settle; rw [put_same]; exact ⟨Int.le_refl _, fun e => absurd e (by simp)⟩
    · unfold Go.Proofs.YtiocnfambeochaaGreatDoor.settle; rw [put_ne _ _ _ hi]; exact h.wt i
  · refine endW_none (c := c) h.ends (fun i hi => ?_) ?_
    · show ((Go.Proofs.YtiocnfambeochaaGreatDoor.settle r c a).tk i).wt = (r.tk i).wt
      unfold Go.Proofs.YtiocnfambeochaaGreatDoor.settle; rw [put_ne _ _ _ hi]
    · show ((Go.Proofs.YtiocnfambeochaaGreatDoor.settle r c a).tk c).wt = -1
      unfold Go.Proofs.YtiocnfambeochaaGreatDoor.settle; rw [put_same]
  · show r.store = _
    rw [h.sto]
    congr 1
    exact List.map_congr_left fun c' hm => by rw [hcs c' hm]
  · intro b hb
    obtain ⟨h1, h2⟩ := h.stoOK b hb
    refine ⟨h1, ?_⟩
    rcases h2 with h2 | ⟨c', h2, h4⟩
    · exact .inl h2
    · exact .inr ⟨c', h2, by rw [hcs c' h2]; exact h4⟩
  · intro c' hm
    rw [hcs c' hm]; exact h.csOK c' hm
  · intro i
    by_cases hi : i = c
    · subst hi
      intro _ _
      rcases hd with g | ⟨b, g1, g2, g3⟩
      · exact .inl g
      · exact .inr (.inr ⟨b, g1, g2, g3.put _ hn⟩)
    · unfold Go.Proofs.YtiocnfambeochaaGreatDoor.settle
      rw [put_ne _ _ _ hi]
      intro e f
      rcases h.done i e f with g | g | ⟨b, g1, g2, g3⟩
      · exact .inl g
      · exact .inr (.inl g)
      · exact .inr (.inr ⟨b, g1, g2, g3.put _ hn⟩)
  · intro i
    by_cases hi : i = c
    · subst hi; unfold Go.Proofs.YtiocnfambeochaaGreatDoor.settle; rw [put_same]; intro e; exact absurd rfl e
    · unfold Go.Proofs.YtiocnfambeochaaGreatDoor.settle; rw [put_ne _ _ _ hi]; exact h.cl i
  · intro i b hxb
    by_cases hi : i = c
    · subst hi; unfold Go.Proofs.YtiocnfambeochaaGreatDoor.settle; rw [put_same]; exact ⟨(h.x _ b hxb).1, by simp, by simp⟩
    · unfold Go.Proofs.YtiocnfambeochaaGreatDoor.settle; rw [put_ne _ _ _ hi]; exact h.x i b hxb

/-- Of another cell than this nothing has changed. -/
structure Frm (r r' : Rn) (c : Nat) : Prop where
  fs : r'.fs = r.fs
  last : r'.last = r.last
  way : r'.way = r.way
  tk : ∀ i, i ≠ c → r'.tk i = r.tk i
theorem Frm.refl (r : Rn) (c : Nat) : Frm r r c := ⟨rfl, rfl, rfl, fun _ _ => rfl⟩
theorem Frm.put (r : Rn) (c : Nat) (t : Tsk) : Frm r (r.put c t) c := ⟨rfl, rfl, rfl, fun _ h => put_ne _ _ _ h⟩
theorem Frm.trans {r r' r'' : Rn} {c : Nat} (h : Frm r r' c) (g : Frm r' r'' c) : Frm r r'' c :=
  ⟨g.fs.trans h.fs, g.last.trans h.last, g.way.trans h.way, fun i hi => (g.tk i hi).trans (h.tk i hi)⟩
/-- The cell waits for this one. -/
structure Waits (r : Rn) (c o : Nat) : Prop where
  wt : (r.tk c).wt = o
  lt : o < 48
  ne : o ≠ c
  open' : (r.tk o).st ≠ 3
  mine : (r.tk c).st ≠ 3

theorem look_ok (hW : RightW E) (h : Inv E val S0 Cl X r cs) (hc : (r.tk c).st ≠ 3) {o : Nat} (hn : Needs E.D r.fs c o) (ho : o < 48) :
    (look E r c o = (r, some (val o))) ∨ (look E r c o = (r.put c { r.tk c with wt := o }, none) ∧ Inv E val S0 Cl X (r.put c { r.tk c with wt := o }) cs ∧ Waits (r.put c { r.tk c with wt := o }) c o) := by
  unfold look
  by_cases h3 : (r.tk o).st = 3
  · left; rw [if_pos h3, (h.sett o h3).v]
  · rw [if_neg h3]
    by_cases hw : E.W r.wts o c = true
    · left
      rw [if_pos hw]
      obtain ⟨m, hm⟩ := (hW _ h.ends o c).1 hw
      rw [ring_cyc h.hv (wt := r.wts) (fun x hx => ((h.wt x).2 hx).1) hm hn]
    · right
      rw [if_neg hw]
      have hno : ¬ ∃ m, along r.wts m o = c := fun hm => hw ((hW _ h.ends o c).2 hm)
      have hu := h.uns c hc
      have hoc : o ≠ c := fun e => hno ⟨0, by rw [e]; rfl⟩
      refine ⟨rfl, h.put hc _ ?_ ?_ ?_ ?_ ?_, ?_⟩
      · have := h.st c; show (r.tk c).st < 3; omega
      · exact { f := hu.f, lt := hu.lt, kn := by rw [put_same]; exact fun a ha => ⟨(hu.kn a ha).1, (hu.kn a ha).2.1, (hu.kn a ha).2.2.put _ (h.notcs hc)⟩, held := by rw [put_same]; exact hu.held, held0 := by rw [put_same]; exact hu.held0, run := by rw [put_same]; exact hu.run }
      · refine ⟨by show -1 ≤ (o : Int); omega, fun _ => ?_⟩
        show Needs E.D r.fs c (o : Int).toNat ∧ (o : Int).toNat < 48
        rw [Int.toNat_natCast]; exact ⟨hn, ho⟩
      · refine endW_wait (c := c) (o := o) h.ends (fun i hi => ?_) ?_ hno
        · show ((r.put c _).tk i).wt = (r.tk i).wt; rw [put_ne _ _ _ hi]
        · show ((r.put c _).tk c).wt = o; rw [put_same]
      · intro a hxa; exact (h.x c a hxa).2
      · exact { wt := by rw [put_same], lt := ho, ne := hoc, open' := by rw [put_ne _ _ _ hoc]; exact h3, mine := by rw [put_same]; exact hc }
end
end Go.Proofs.YtiocnfambeochaaGreatDoor

/- Plain mathematics: a cell's turn keeps what is true of a working out. -/
set_option linter.unusedVariables false
set_option linter.unusedSimpArgs false
namespace Go.Proofs.YtiocnfambeochaaGreatDoor

theorem actN_succ : ∀ (n : Nat) (d : Beh), ActN n d → ActN (n + 1) d
  | 0, d, h => .inl h
  | n + 1, d, h => by
    rcases h with h | ⟨nd, h1, h2, h3⟩
    · exact .inl h
    · exact .inr ⟨nd, h1, h2, fun x hx => actN_succ n _ (h3 x hx)⟩
theorem actN_tr : ∀ (l : List Rd) (d : Beh) (n : Nat), ActN n d → Tr d l → (∀ r ∈ l, OKV r.w) → (∀ r ∈ l, r.nd.c < 48) ∧ ActN n (fun h => d (ws l ++ h))
  | [], d, n, h, _, _ => ⟨by simp, h⟩
  | a :: l, d, n, h, ⟨h1, h2⟩, ho => by
    obtain ⟨hc, m, rfl, hm⟩ := h.next h1
    obtain ⟨g1, g2⟩ := actN_tr l _ m (hm a.w (ho a List.mem_cons_self)) h2 (fun r hr => ho r (List.mem_cons_of_mem _ hr))
    refine ⟨fun r hr => ?_, actN_succ _ _ g2⟩
    rcases List.mem_cons.1 hr with rfl | hr
    · exact hc
    · exact g1 r hr
theorem see_ne {nd : Nd} {v : V} (h : v ≠ cyc) : see nd v ≠ cyc := by
  unfold see
  split
  · unfold vI cyc vE; simp
  · exact h
theorem take_next {α : Type} {l : List α} {n : Nat} {x : α} (h : l[n]? = some x) : l.take (n + 1) = l.take n ++ [x] := by
  rw [List.take_add_one, h]; rfl
theorem drop_head {α : Type} {l : List α} {n : Nat} {x : α} {t : List α} (h : l.drop n = x :: t) : l[n]? = some x ∧ l.drop (n + 1) = t := by
  have h1 := congrArg (fun m => m[0]?) h
  simp at h1
  refine ⟨h1, ?_⟩
  have := congrArg (List.drop 1) h
  rw [List.drop_drop] at this
  simpa using this

section
variable {E : Env} {val : Nat → V} {S0 : Con} {Cl : Nat → Prop} {X : Nat → Ans → Prop} {r : Rn} {cs : List Nat} {c : Nat}
theorem tryR_ok (hW : RightW E) {a : Ans} {l : List Ans} : ∀ (rest : List Rd) (r : Rn), Inv E val S0 Cl X r cs → (r.tk c).st = 1 → (r.tk c).kn = a :: l → a.rs.drop (r.tk c).held = rest →
    ∃ r', Inv E val S0 Cl X r' cs ∧ Frm r r' c ∧ r'.bg = r.bg ∧ r'.store = r.store ∧ (r'.tk c).st = 1 ∧ (r'.tk c).kn = a :: l ∧
      ((tryR E c rest r = (r', none) ∧ ∃ o, Waits r' c o) ∨ (tryR E c rest r = (r', some true) ∧ Hold val a.rs) ∨ (tryR E c rest r = (r', some false) ∧ ¬ Hold val a.rs))
  | [], r, h, hs, hk, hd => by
    have hu := h.uns c (by rw [hs]; decide)
    obtain ⟨g1, g2⟩ := hu.held a l hk
    refine ⟨r, h, Frm.refl r c, rfl, rfl, hs, hk, .inr (.inl ⟨rfl, ?_⟩)⟩
    have : a.rs.length ≤ (r.tk c).held := List.drop_eq_nil_iff.1 hd
    rw [List.take_of_length_le this] at g2
    exact g2
  | x :: rest, r, h, hs, hk, hd => by
    have h3 : (r.tk c).st ≠ 3 := by rw [hs]; decide
    have hu := h.uns c h3
    obtain ⟨g1, g2⟩ := hu.held a l hk
    obtain ⟨e1, e2⟩ := drop_head hd
    obtain ⟨⟨va0, va1, va2, va3⟩, vf, vo⟩ := hu.kn a (by rw [hk]; exact List.mem_cons_self)
    have hm : x ∈ a.rs := List.mem_of_getElem? e1
    rw [vf] at va1
    have hn := needs_of h.hv hu.f (tr_take _ _ _ va1) g2 (tr_at _ _ _ _ va1 e1)
    rcases look_ok hW h h3 hn (va3 x hm).2 with hl | ⟨hl, hi, hw⟩
    · by_cases hh : (see x.nd (val x.nd.c)).eqB x.w = true
      · have hx := eqB_iff.1 hh
        have hne : val x.nd.c ≠ cyc := by
          intro e; rw [e, see_cyc] at hx; exact (va3 x hm).1 hx.symm
        have hi : Inv E val S0 Cl X (r.put c { r.tk c with held := (r.tk c).held + 1 }) cs := by
          refine h.put h3 _ (by show (r.tk c).st < 3; omega) ?_ (h.wt c) ?_ (fun b hb => (h.x c b hb).2)
          · refine { f := hu.f, lt := hu.lt, kn := ?_, held := ?_, held0 := ?_, run := ?_ }
            · rw [put_same]; exact fun b hb => ⟨(hu.kn b hb).1, (hu.kn b hb).2.1, (hu.kn b hb).2.2.put _ (h.notcs h3)⟩
            · rw [put_same]
              intro b m hb
              have : b = a := by
                have hb : (r.tk c).kn = b :: m := hb
                rw [hk] at hb; cases hb; rfl
              subst this
              refine ⟨?_, ?_⟩
              · show (r.tk c).held + 1 ≤ b.rs.length
                have := (List.getElem?_eq_some_iff.1 e1).1
                omega
              · show Hold val (b.rs.take ((r.tk c).held + 1))
                rw [take_next e1]
                exact g2.app hx.symm hne
            · rw [put_same]; intro e; have e : (r.tk c).kn = [] := e; rw [hk] at e; cases e
            · rw [put_same]; intro e; have e : (r.tk c).st = 2 := e; omega
          · refine endW_upd (c := c) h.ends (fun i hi => ?_) ?_
            · show ((r.put c _).tk i).wt = (r.tk i).wt; rw [put_ne _ _ _ hi]
            · have : (r.put c { r.tk c with held := (r.tk c).held + 1 }).wts = r.wts := by
                funext i
                show ((r.put c _).tk i).wt = (r.tk i).wt
                by_cases hi : i = c
                · subst hi; rw [put_same]
                · rw [put_ne _ _ _ hi]
              rw [this]; exact h.ends c
        obtain ⟨r', i1, i2, i3, i4, i5, i6, i7⟩ := tryR_ok hW rest _ hi (by rw [put_same]; exact hs) (by rw [put_same]; exact hk) (by rw [put_same]; exact e2)
        refine ⟨r', i1, (Frm.put r c _).trans i2, i3, i4, i5, i6, ?_⟩
        have : tryR E c (x :: rest) r = tryR E c rest (r.put c { r.tk c with held := (r.tk c).held + 1 }) := by
          rw [tryR, hl]; simp only [hh, if_true]
        rw [this]; exact i7
      · refine ⟨r, h, Frm.refl r c, rfl, rfl, hs, hk, .inr (.inr ⟨?_, ?_⟩)⟩
        · rw [tryR, hl]; simp only [hh]; rfl
        · intro g; exact hh (eqB_iff.2 (g x hm).1.symm)
    · refine ⟨_, hi, Frm.put r c _, rfl, rfl, by rw [put_same]; exact hs, by rw [put_same]; exact hk, .inl ⟨?_, _, hw⟩⟩
      rw [tryR, hl]

theorem tryK_ok (hW : RightW E) (hX : ∀ c a, X c a → Hold val a.rs) : ∀ (kl : List Ans) (r : Rn), Inv E val S0 Cl X r cs → (r.tk c).st = 1 → (r.tk c).kn = kl →
    ∃ r', Inv E val S0 Cl X r' cs ∧ Frm r r' c ∧ r'.bg = r.bg ∧ r'.store = r.store ∧
      ((tryK E c kl r = (r', false) ∧ (r'.tk c).st = 1 ∧ ∃ o, Waits r' c o) ∨ (tryK E c kl r = (r', true) ∧ (r'.tk c).st = 3) ∨ (tryK E c kl r = (r', true) ∧ (r'.tk c).st = 1 ∧ (r'.tk c).kn = [] ∧ ∀ a ∈ kl, ¬ Hold val a.rs))
  | [], r, h, hs, hk => ⟨r, h, Frm.refl r c, rfl, rfl, .inr (.inr ⟨rfl, hs, hk, by simp⟩)⟩
  | a :: l, r, h, hs, hk => by
    obtain ⟨r1, i1, i2, i3, i4, i5, i6, i7⟩ := tryR_ok hW _ r h hs hk rfl
    have h3 : (r1.tk c).st ≠ 3 := by rw [i5]; decide
    have hu := i1.uns c h3
    obtain ⟨⟨va0, va1, va2, va3⟩, vf, vo⟩ := hu.kn a (by rw [i6]; exact List.mem_cons_self)
    rcases i7 with ⟨e, o, hw⟩ | ⟨e, hh⟩ | ⟨e, hh⟩
    · exact ⟨r1, i1, i2, i3, i4, .inl ⟨by rw [tryK, e], i5, o, hw⟩⟩
    · have hv : val c = a.v := by
        rw [vf] at va1 va2
        exact (val_of i1.hv hu.f va1 hh va2).1
      refine ⟨settle r1 c a, i1.settled h3 a vf hv.symm (fun _ => ⟨⟨va0, va1, va2, va3⟩, hh⟩) (.inr ⟨a, vf, hh, vo⟩), i2.trans (Frm.put _ _ _), i3, i4, .inr (.inl ⟨by rw [tryK, e], ?_⟩)⟩
      unfold settle; rw [put_same]
    · have hi : Inv E val S0 Cl X (r1.put c { r1.tk c with kn := l, held := 0 }) cs := by
        refine i1.put h3 _ (by show (r1.tk c).st < 3; omega) ?_ (i1.wt c) ?_ ?_
        · refine { f := hu.f, lt := hu.lt, kn := ?_, held := ?_, held0 := ?_, run := ?_ }
          · rw [put_same]
            intro b hb
            have := hu.kn b (by rw [i6]; exact List.mem_cons_of_mem _ hb)
            exact ⟨this.1, this.2.1, this.2.2.put _ (i1.notcs h3)⟩
          · rw [put_same]; intro b m _; exact ⟨Nat.zero_le _, by show Hold val (b.rs.take 0); rw [List.take_zero]; exact Hold.nil val⟩
          · rw [put_same]; intro _; rfl
          · rw [put_same]; intro e; have e : (r1.tk c).st = 2 := e; omega
        · have : (r1.put c { r1.tk c with kn := l, held := 0 }).wts = r1.wts := by
            funext i
            show ((r1.put c _).tk i).wt = (r1.tk i).wt
            by_cases hi : i = c
            · subst hi; rw [put_same]
            · rw [put_ne _ _ _ hi]
          rw [this]; exact i1.ends
        · intro b hb
          obtain ⟨_, x2, x3⟩ := i1.x c b hb
          refine ⟨x2, fun e => ?_⟩
          have := x3 i5
          rw [i6] at this
          rcases List.mem_cons.1 this with rfl | this
          · exact absurd (hX c _ hb) hh
          · exact this
      obtain ⟨r', j1, j2, j3, j4, j5⟩ := tryK_ok hW hX l _ hi (by rw [put_same]; exact i5) (by rw [put_same])
      have et : tryK E c (a :: l) r = tryK E c l (r1.put c { r1.tk c with kn := l, held := 0 }) := by rw [tryK, e]
      refine ⟨r', j1, (i2.trans (Frm.put _ _ _)).trans j2, j3.trans i3, j4.trans i4, ?_⟩
      rw [et]
      rcases j5 with j5 | j5 | ⟨j5, j6, j7, j8⟩
      · exact .inl j5
      · exact .inr (.inl j5)
      · refine .inr (.inr ⟨j5, j6, j7, fun b hb => ?_⟩)
        rcases List.mem_cons.1 hb with rfl | hb
        · exact hh
        · exact j8 b hb

theorem begin_ok (h : Inv E val S0 Cl X r cs) (hs : (r.tk c).st = 1) (hk : (r.tk c).kn = []) (hx : ∀ a, ¬ X c a) : Inv E val S0 Cl X (beginP E r c) cs ∧ ((beginP E r c).tk c).st = 2 := by
  have h3 : (r.tk c).st ≠ 3 := by rw [hs]; decide
  have hu := h.uns c h3
  have hn := h.notcs h3
  have hcs : ∀ c' ∈ cs, (beginP E r c).tk c' = r.tk c' := fun c' hm => put_ne _ _ _ (fun e => hn (e ▸ hm))
  have same : (beginP E r c).tk c = { r.tk c with st := 2, d := E.D (r.fs c), an := ⟨r.fs c, [], vN⟩ } := put_same _ _ _
  have other : ∀ i, i ≠ c → (beginP E r c).tk i = r.tk i := fun i hi => put_ne _ _ _ hi
  have org : ∀ i a, Org S0 r cs i a → Org S0 (beginP E r c) cs i a := by
    intro i a ho
    rcases ho with ho | ho | ⟨c', o1, o2⟩
    · exact .inl ho
    · exact .inr (.inl ho)
    · exact .inr (.inr ⟨c', o1, by rw [hcs c' o1]; exact o2⟩)
  refine ⟨?_, by rw [same]⟩
  refine { hv := h.hv, fit := h.fit, con := h.con, st := ?_, sett := ?_, uns := ?_, wt := ?_, ends := ?_, sto := ?_, sw := h.sw, stoOK := ?_, lastOK := h.lastOK, nodup := h.nodup, csOK := ?_, bg := ?_, bgE := ?_, done := ?_, cl := ?_, x := ?_ }
  · intro i
    by_cases hi : i = c
    · subst hi; rw [same]; show 2 ≤ 3; omega
    · rw [other i hi]; exact h.st i
  · intro i
    by_cases hi : i = c
    · subst hi; rw [same]; intro e; exact absurd e (by show ¬ 2 = 3; decide)
    · intro e
      rw [other i hi] at e
      have := h.sett i e
      exact { wt := by rw [other i hi]; exact this.wt, f := by rw [other i hi]; exact this.f, v := by rw [other i hi]; exact this.v, good := by rw [other i hi]; exact this.good, none := by rw [other i hi]; exact this.none }
  · intro i
    by_cases hi : i = c
    · subst hi
      intro _
      exact { f := hu.f, lt := hu.lt, kn := by (rw [same]; intro a ha; have ha : a ∈ (r.tk i).kn := ha; rw [hk] at ha; cases ha), held := by (rw [same]; intro a m e; have e : (r.tk i).kn = a :: m := e; rw [hk] at e; cases e),
              held0 := by rw [same]; exact hu.held0,
              run := by rw [same]; intro _; exact ⟨rfl, trivial, Hold.nil val, rfl, hk, by show i ∈ r.bg ++ [i]; simp⟩ }
    · intro e
      rw [other i hi] at e
      have := h.uns i e
      exact { f := this.f, lt := this.lt, kn := by rw [other i hi]; exact fun a ha => ⟨(this.kn a ha).1, (this.kn a ha).2.1, org i a (this.kn a ha).2.2⟩, held := by rw [other i hi]; exact this.held, held0 := by rw [other i hi]; exact this.held0,
              run := by rw [other i hi]; intro e; obtain ⟨a1, a2, a3, a4, a5, a6⟩ := this.run e; exact ⟨a1, a2, a3, a4, a5, List.mem_append_left _ a6⟩ }
  · intro i
    by_cases hi : i = c
    · subst hi; rw [same]; exact h.wt i
    · rw [other i hi]; exact h.wt i
  · have : (beginP E r c).wts = r.wts := by
      funext i
      show ((beginP E r c).tk i).wt = (r.tk i).wt
      by_cases hi : i = c
      · subst hi; rw [same]
      · rw [other i hi]
    rw [this]; exact h.ends
  · show r.store = _
    rw [h.sto]
    congr 1
    exact List.map_congr_left fun c' hm => by rw [hcs c' hm]
  · intro b hb
    obtain ⟨h1, h2⟩ := h.stoOK b hb
    refine ⟨h1, ?_⟩
    rcases h2 with h2 | ⟨c', h2, h4⟩
    · exact .inl h2
    · exact .inr ⟨c', h2, by rw [hcs c' h2]; exact h4⟩
  · intro c' hm
    rw [hcs c' hm]; exact ⟨(h.csOK c' hm).1, List.mem_append_left _ (h.csOK c' hm).2⟩
  · intro i hi
    rcases List.mem_append.1 (show i ∈ r.bg ++ [c] from hi) with hi | hi
    · exact h.bg i hi
    · rw [List.mem_singleton] at hi; subst hi; exact ⟨hu.f, hu.lt, h.cl _ h3⟩
  · intro e; have e : r.bg ++ [c] = [] := e; simp at e
  · intro i
    by_cases hi : i = c
    · subst hi; rw [same]; intro e; exact absurd e (by show ¬ 2 = 3; decide)
    · rw [other i hi]
      intro e f
      rcases h.done i e f with ⟨g1, g2⟩ | g | ⟨a, g1, g2, g3⟩
      · exact .inl ⟨g1, List.mem_append_left _ g2⟩
      · exact .inr (.inl g)
      · exact .inr (.inr ⟨a, g1, g2, org i a g3⟩)
  · intro i
    by_cases hi : i = c
    · subst hi; intro _; exact h.cl _ h3
    · rw [other i hi]; exact h.cl i
  · intro i a hxa
    by_cases hi : i = c
    · subst hi; exact absurd hxa (hx a)
    · rw [other i hi]
      obtain ⟨x1, x2, x3⟩ := h.x i a hxa
      refine ⟨fun hm => ?_, x2, x3⟩
      rcases List.mem_append.1 (show i ∈ r.bg ++ [c] from hm) with hm | hm
      · exact x1 hm
      · rw [List.mem_singleton] at hm; exact hi hm

theorem add_sw {s : Sto} (h : SW s) (a : Ans) : SW (s.add a) := by
  unfold Sto.add
  by_cases hp : s.places = 0
  · rw [if_pos hp]; exact h
  · rw [if_neg hp]
    have h1 := h.next hp
    have h2 := h.size
    refine { len := by simp [h.len], places := h.places, size := Nat.min_le_right _ _, next := fun _ => Nat.mod_lt _ (by omega), open' := ?_ }
    intro hlt
    have hlt : min (s.size + 1) s.places < s.places := hlt
    have h3 := h.open' (by omega)
    show (s.next + 1) % s.places = min (s.size + 1) s.places
    rw [Nat.min_eq_left (by omega), Nat.mod_eq_of_lt (by omega), h3]
theorem has_add {s : Sto} (hs : SW s) {a b : Ans} (h : b ∈ (s.add a).has) : b = a ∨ b ∈ s.has := by
  unfold Sto.add Sto.has at h
  by_cases hp : s.places = 0
  · rw [if_pos hp] at h; exact .inr h
  · rw [if_neg hp] at h
    have h : b ∈ (s.kept.set s.next a).take (min (s.size + 1) s.places) := h
    obtain ⟨i, hi⟩ := List.getElem?_of_mem h
    rw [List.getElem?_take] at hi
    by_cases hlt : i < min (s.size + 1) s.places
    · rw [if_pos hlt] at hi
      by_cases e : i = s.next
      · subst e
        have h1 := hs.next hp
        have h2 := hs.places
        rw [List.getElem?_set_self (by rw [hs.len]; omega)] at hi
        cases hi; exact .inl rfl
      · rw [List.getElem?_set_ne (fun h => e h.symm)] at hi
        right
        have : i < s.size := by
          have h2 := hs.size
          by_cases hf : s.size < s.places
          · have := hs.open' hf; omega
          · omega
        refine List.mem_of_getElem? (i := i) ?_
        unfold Sto.has
        rw [List.getElem?_take, if_pos this]; exact hi
    · rw [if_neg hlt] at hi; cases hi

/-- A cell that is begun comes to its end. -/
theorem Inv.added (h : Inv E val S0 Cl X r cs) (hs : (r.tk c).st = 2) (a : Ans) (hf : a.f = r.fs c) (hv : a.v = val c) (hg : VA E a ∧ Hold val a.rs) :
    Inv E val S0 Cl X (settle { r with store := r.store.add a } c a) (cs ++ [c]) := by
  have hc : (r.tk c).st ≠ 3 := by rw [hs]; decide
  have hn := h.notcs hc
  have hu := h.uns c hc
  obtain ⟨_, _, _, _, _, hbg⟩ := hu.run hs
  obtain ⟨r', hr'⟩ : ∃ r', settle { r with store := r.store.add a } c a = r' := ⟨_, rfl⟩
  have same : r'.tk c = ⟨3, -1, [], 0, retA vN, a⟩ := by rw [← hr']; exact put_same _ _ _
  have other : ∀ i, i ≠ c → r'.tk i = r.tk i := fun i hi => by rw [← hr']; exact put_ne _ _ _ hi
  have hfs : r'.fs = r.fs := by rw [← hr']; rfl
  have hla : r'.last = r.last := by rw [← hr']; rfl
  have hbb : r'.bg = r.bg := by rw [← hr']; rfl
  have hst : r'.store = r.store.add a := by rw [← hr']; rfl
  have hsy : ∀ i, stays r' i = stays r i := fun i => by rw [← hr']; rfl
  have hcs : ∀ c' ∈ cs, r'.tk c' = r.tk c' := fun c' hm => other _ (fun e => hn (e ▸ hm))
  rw [hr']
  have org : ∀ i b, Org S0 r cs i b → Org S0 r' (cs ++ [c]) i b := by
    intro i b ho
    rcases ho with ⟨o1, o2⟩ | ho | ⟨c', o1, o2⟩
    · exact .inl ⟨by rw [hsy]; exact o1, by rw [hla]; exact o2⟩
    · exact .inr (.inl ho)
    · exact .inr (.inr ⟨c', List.mem_append_left _ o1, by rw [hcs c' o1]; exact o2⟩)
  refine { hv := by rw [hfs]; exact h.hv, fit := by rw [hfs]; exact h.fit, con := by rw [← hr']; exact h.con, st := ?_, sett := ?_, uns := ?_, wt := ?_, ends := ?_, sto := ?_, sw := by rw [hst]; exact add_sw h.sw a, stoOK := ?_, lastOK := ?_, nodup := ?_, csOK := ?_, bg := by rw [hfs, hbb]; exact h.bg, bgE := ?_, done := ?_, cl := ?_, x := ?_ }
  · intro i
    by_cases hi : i = c
    · subst hi; rw [same]; exact Nat.le_refl _
    · rw [other i hi]; exact h.st i
  · intro i
    by_cases hi : i = c
    · subst hi; intro _
      exact { wt := by rw [same], f := by rw [same, hfs]; exact hf, v := by rw [same]; exact hv, good := fun _ _ => by rw [same]; exact hg, none := fun e => absurd e (by rw [hfs]; exact hu.f) }
    · rw [other i hi]; intro e
      have := h.sett i e
      exact { wt := by rw [other i hi]; exact this.wt, f := by rw [other i hi, hfs]; exact this.f, v := by rw [other i hi]; exact this.v, good := by rw [other i hi, hfs]; exact this.good, none := by rw [other i hi, hfs]; exact this.none }
  · intro i
    by_cases hi : i = c
    · subst hi; rw [same]; intro e; exact absurd rfl e
    · intro e
      rw [other i hi] at e
      have := h.uns i e
      exact { f := by rw [hfs]; exact this.f, lt := this.lt, kn := by (rw [other i hi, hfs]; exact fun a ha => ⟨(this.kn a ha).1, (this.kn a ha).2.1, org i a (this.kn a ha).2.2⟩), held := by rw [other i hi]; exact this.held, held0 := by rw [other i hi]; exact this.held0, run := by rw [other i hi, hfs, hbb]; exact this.run }
  · intro i
    by_cases hi : i = c
    · subst hi; rw [same]; exact ⟨Int.le_refl _, fun e => absurd e (by simp)⟩
    · rw [other i hi, hfs]; exact h.wt i
  · refine endW_none (c := c) h.ends (fun i hi => ?_) ?_
    · show (r'.tk i).wt = (r.tk i).wt; rw [other i hi]
    · show (r'.tk c).wt = -1; rw [same]
  · rw [hst, h.sto, List.map_append, List.foldl_append]
    have : cs.map (fun c => (r'.tk c).an) = cs.map (fun c => (r.tk c).an) := List.map_congr_left fun c' hm => by rw [hcs c' hm]
    rw [this]
    show _ = Sto.add _ (r'.tk c).an
    rw [same]
  · intro b hb
    rw [hst] at hb
    rcases has_add h.sw hb with rfl | hb
    · exact ⟨hg.1, .inr ⟨c, by simp, by rw [same]⟩⟩
    · obtain ⟨h1, h2⟩ := h.stoOK b hb
      refine ⟨h1, ?_⟩
      rcases h2 with h2 | ⟨c', h2, h4⟩
      · exact .inl h2
      · exact .inr ⟨c', List.mem_append_left _ h2, by rw [hcs c' h2]; exact h4⟩
  · intro i; rw [hsy, hfs, hla]; exact h.lastOK i
  · rw [List.nodup_append]
    refine ⟨h.nodup, by simp, fun x hx y hy => ?_⟩
    rw [List.mem_singleton] at hy
    subst hy
    intro e; subst e; exact hn hx
  · intro i hi
    rcases List.mem_append.1 hi with hi | hi
    · rw [hcs i hi, hbb]; exact h.csOK i hi
    · rw [List.mem_singleton] at hi; subst hi; rw [same, hbb]; exact ⟨rfl, hbg⟩
  · intro e; rw [hbb] at e; rw [e] at hbg; cases hbg
  · intro i
    by_cases hi : i = c
    · subst hi; intro _ _
      exact .inr (.inr ⟨a, by rw [hfs]; exact hf, hg.2, .inr (.inr ⟨i, by simp, by rw [same]⟩)⟩)
    · rw [other i hi, hfs, hbb]
      intro e f
      rcases h.done i e f with g | g | ⟨b, g1, g2, g3⟩
      · exact .inl g
      · exact .inr (.inl g)
      · exact .inr (.inr ⟨b, g1, g2, org i b g3⟩)
  · intro i
    by_cases hi : i = c
    · subst hi; rw [same]; intro e; exact absurd rfl e
    · rw [other i hi]; exact h.cl i
  · intro i b hxb
    by_cases hi : i = c
    · subst hi; exact absurd hs (h.x _ b hxb).2.1
    · rw [other i hi, hbb]; exact h.x i b hxb

theorem hold_va (h : Inv E val S0 Cl X r cs) (h0 : r.fs c ≠ eB) {rs : List Rd} (ht : Tr (E.D (r.fs c)) rs) (hh : Hold val rs) :
    (∀ x ∈ rs, x.w ≠ cyc ∧ x.nd.c < 48) ∧ ActN (E.B (r.fs c)) (fun l => E.D (r.fs c) (ws rs ++ l)) := by
  obtain ⟨g1, g2⟩ := actN_tr rs _ _ (h.fit c h0) ht (fun x hx => by
    obtain ⟨w1, w2⟩ := hh x hx
    rw [w1]; exact okv_see ((h.hv _).ok h.Fit w2))
  refine ⟨fun x hx => ⟨?_, g1 x hx⟩, g2⟩
  obtain ⟨w1, w2⟩ := hh x hx
  rw [w1]; exact see_ne w2

theorem runP_ok (hW : RightW E) : ∀ (n : Nat) (r : Rn), Inv E val S0 Cl X r cs → (r.tk c).st = 2 → ActN n (r.tk c).d →
    ∃ r' cs', runP E c (n + 1) r = r' ∧ Inv E val S0 Cl X r' cs' ∧ Frm r r' c ∧ r'.bg = r.bg ∧ ((r'.tk c).st = 3 ∨ ((r'.tk c).st = 2 ∧ ∃ o, Waits r' c o)) := by
  intro n
  induction n with
  | zero =>
    intro r h hs ha
    have h3 : (r.tk c).st ≠ 3 := by rw [hs]; decide
    have hu := h.uns c h3
    obtain ⟨a1, a2, a3, a4, a5, a6⟩ := hu.run hs
    obtain ⟨v, hv, e⟩ := ha
    have e' : E.D (r.fs c) (ws (r.tk c).an.rs) = .inl v := by rw [a4] at e; simpa using e
    obtain ⟨f1, f2⟩ := val_of h.hv hu.f a2 a3 e'
    obtain ⟨g1, g2⟩ := hold_va h hu.f a2 a3
    refine ⟨_, cs ++ [c], rfl, ?_, ?_, ?_, ?_⟩
    · rw [runP, e]
      exact h.added hs { (r.tk c).an with v := v } a1 f1.symm ⟨⟨by show (r.tk c).an.f ≠ eB; rw [a1]; exact hu.f, by show Tr (E.D (r.tk c).an.f) _; rw [a1]; exact a2, by show E.D (r.tk c).an.f _ = _; rw [a1]; exact e', g1⟩, a3⟩
    · rw [runP, e]; exact ⟨rfl, rfl, rfl, fun i hi => put_ne _ _ _ hi⟩
    · rw [runP, e]; rfl
    · rw [runP, e]; left; unfold settle; rw [put_same]
  | succ n ih =>
    intro r h hs ha
    have h3 : (r.tk c).st ≠ 3 := by rw [hs]; decide
    have hu := h.uns c h3
    obtain ⟨a1, a2, a3, a4, a5, a6⟩ := hu.run hs
    obtain ⟨g1, g2⟩ := hold_va h hu.f a2 a3
    rcases ha with ⟨v, hv, e⟩ | ⟨nd, hnd, e, hk⟩
    · have e' : E.D (r.fs c) (ws (r.tk c).an.rs) = .inl v := by rw [a4] at e; simpa using e
      obtain ⟨f1, f2⟩ := val_of h.hv hu.f a2 a3 e'
      refine ⟨_, cs ++ [c], rfl, ?_, ?_, ?_, ?_⟩
      · rw [runP, e]
        exact h.added hs { (r.tk c).an with v := v } a1 f1.symm ⟨⟨by show (r.tk c).an.f ≠ eB; rw [a1]; exact hu.f, by show Tr (E.D (r.tk c).an.f) _; rw [a1]; exact a2, by show E.D (r.tk c).an.f _ = _; rw [a1]; exact e', g1⟩, a3⟩
      · rw [runP, e]; exact ⟨rfl, rfl, rfl, fun i hi => put_ne _ _ _ hi⟩
      · rw [runP, e]; rfl
      · rw [runP, e]; left; unfold settle; rw [put_same]
    · have e' : E.D (r.fs c) (ws (r.tk c).an.rs) = .inr nd := by rw [a4] at e; simpa using e
      have hn := needs_of h.hv hu.f a2 a3 e'
      rcases look_ok hW h h3 hn hnd with hl | ⟨hl, hi, hw⟩
      · by_cases hcy : val nd.c = cyc
        · have hvc := cyc_of h.Fit h.hv hn hcy
          refine ⟨settle r c ⟨r.fs c, [], val nd.c⟩, cs, ?_, ?_, Frm.put _ _ _, rfl, ?_⟩
          · rw [runP, e]
            dsimp only
            rw [hl]
            dsimp only
            rw [if_pos (eqB_iff.2 hcy)]
          · exact h.settled h3 _ rfl (by show val nd.c = val c; rw [hcy, hvc]) (fun g => absurd hvc g) (.inl ⟨hvc, a6⟩)
          · left; unfold settle; rw [put_same]
        · obtain ⟨r1, hr1⟩ : ∃ r1, r1 = r.put c { r.tk c with d := fun l => (r.tk c).d (see nd (val nd.c) :: l), an := { (r.tk c).an with rs := (r.tk c).an.rs ++ [⟨nd, see nd (val nd.c)⟩] } } := ⟨_, rfl⟩
          have same : r1.tk c = { r.tk c with d := fun l => (r.tk c).d (see nd (val nd.c) :: l), an := { (r.tk c).an with rs := (r.tk c).an.rs ++ [⟨nd, see nd (val nd.c)⟩] } } := by rw [hr1, put_same]
          have hi : Inv E val S0 Cl X r1 cs := by
            rw [hr1]
            refine h.put h3 _ (by show (r.tk c).st < 3; omega) ?_ (h.wt c) ?_ (fun b hb => absurd hs (h.x c b hb).2.1)
            · refine { f := hu.f, lt := hu.lt, kn := ?_, held := ?_, held0 := ?_, run := ?_ }
              · rw [put_same]; intro b hb; have hb : b ∈ (r.tk c).kn := hb; rw [a5] at hb; cases hb
              · rw [put_same]; intro b m e; have e : (r.tk c).kn = b :: m := e; rw [a5] at e; cases e
              · rw [put_same]; exact hu.held0
              · rw [put_same]
                intro _
                refine ⟨a1, tr_app _ _ _ a2 e', a3.app rfl hcy, ?_, a5, a6⟩
                show (fun l => (r.tk c).d (see nd (val nd.c) :: l)) = _
                rw [a4]
                funext l
                show _ = E.D (r.fs c) (ws ((r.tk c).an.rs ++ [⟨nd, see nd (val nd.c)⟩]) ++ l)
                simp [ws]
            · have : (r.put c { r.tk c with d := fun l => (r.tk c).d (see nd (val nd.c) :: l), an := { (r.tk c).an with rs := (r.tk c).an.rs ++ [⟨nd, see nd (val nd.c)⟩] } }).wts = r.wts := by
                funext i
                show ((r.put c _).tk i).wt = (r.tk i).wt
                by_cases hi : i = c
                · subst hi; rw [put_same]
                · rw [put_ne _ _ _ hi]
              rw [this]; exact h.ends
          obtain ⟨r', cs', j1, j2, j3, j4, j5⟩ := ih r1 hi (by rw [same]; exact hs) (by rw [same]; exact hk _ (okv_see ((h.hv _).ok h.Fit hcy)))
          refine ⟨r', cs', ?_, j2, ?_, ?_, j5⟩
          · rw [runP, e]
            dsimp only
            rw [hl]
            dsimp only
            rw [if_neg (by rw [eqB_iff]; exact hcy), ← hr1]
            exact j1
          · exact Frm.trans (by rw [hr1]; exact Frm.put _ _ _) j3
          · rw [j4, hr1]; rfl
      · refine ⟨_, cs, ?_, hi, Frm.put _ _ _, rfl, .inr ⟨by rw [put_same]; exact hs, _, hw⟩⟩
        rw [runP, e]
        dsimp only
        rw [hl]

/-- What a turn comes to. -/
structure Turned (r : Rn) (c : Nat) (t : Rn × Int × Bool) : Prop where
  frm : Frm r t.1 c
  out : (t.2.2 = true ∧ t.2.1 = -1 ∧ (t.1.tk c).st = 3) ∨ (t.2.2 = false ∧ ∃ o : Nat, t.2.1 = o ∧ Waits t.1 c o)
theorem runT_ok (hW : RightW E) (h : Inv E val S0 Cl X r cs) (hs : (r.tk c).st = 2) : (∃ cs', Inv E val S0 Cl X (runT E r c).1 cs') ∧ Turned r c (runT E r c) := by
  have h3 : (r.tk c).st ≠ 3 := by rw [hs]; decide
  have hu := h.uns c h3
  obtain ⟨a1, a2, a3, a4, a5, a6⟩ := hu.run hs
  obtain ⟨g1, g2⟩ := hold_va h hu.f a2 a3
  obtain ⟨r', cs', j1, j2, j3, j4, j5⟩ := runP_ok hW (E.B (r.fs c)) r h hs (by rw [a4]; exact g2)
  have e : runT E r c = (r', (r'.tk c).wt, decide ((r'.tk c).st = 3)) := by unfold runT; rw [j1]
  rw [e]
  refine ⟨⟨cs', j2⟩, j3, ?_⟩
  rcases j5 with j5 | ⟨j5, o, hw⟩
  · left; exact ⟨by simp [j5], (j2.sett c j5).wt, j5⟩
  · right; exact ⟨by simp [j5], o, hw.wt, hw⟩
theorem tryT_ok (hW : RightW E) (hX : ∀ c a, X c a → Hold val a.rs) (h : Inv E val S0 Cl X r cs) (hs : (r.tk c).st = 1) : (∃ cs', Inv E val S0 Cl X (tryT E r c).1 cs') ∧ Turned r c (tryT E r c) := by
  obtain ⟨r', j1, j2, j3, j4, j5⟩ := tryK_ok hW hX _ r h hs rfl
  rcases j5 with ⟨e, k1, o, hw⟩ | ⟨e, k1⟩ | ⟨e, k1, k2, k3⟩
  · have e : tryT E r c = (r', (r'.tk c).wt, false) := by unfold tryT; rw [e]
    rw [e]
    exact ⟨⟨cs, j1⟩, j2, .inr ⟨rfl, o, hw.wt, hw⟩⟩
  · have e : tryT E r c = (r', -1, true) := by unfold tryT; rw [e]; dsimp only; rw [if_pos k1]
    rw [e]
    exact ⟨⟨cs, j1⟩, j2, .inl ⟨rfl, rfl, k1⟩⟩
  · have e : tryT E r c = runT E (beginP E r' c) c := by unfold tryT; rw [e]; dsimp only; rw [if_neg (by omega)]
    obtain ⟨b1, b2⟩ := begin_ok j1 k1 k2 (fun a ha => by
      have := (j1.x c a ha).2.2 k1
      rw [k2] at this; cases this)
    obtain ⟨g1, g2⟩ := runT_ok hW b1 b2
    rw [e]
    have hb : Frm r' (beginP E r' c) c := ⟨rfl, rfl, rfl, fun i hi => put_ne _ _ _ hi⟩
    exact ⟨g1, j2.trans (hb.trans g2.frm), g2.out⟩
theorem fresh_ok (hX : XK E val S0 Cl X) (h : Inv E val S0 Cl X r cs) (hs : (r.tk c).st = 0) : Inv E val S0 Cl X (freshP r c) cs := by
  have h3 : (r.tk c).st ≠ 3 := by rw [hs]; decide
  have hu := h.uns c h3
  refine h.put h3 _ (by show 1 < 3; omega) ?_ (h.wt c) ?_ ?_
  · refine { f := hu.f, lt := hu.lt, kn := ?_, held := ?_, held0 := ?_, run := ?_ }
    · rw [put_same]
      intro a ha
      rcases List.mem_append.1 (show a ∈ (r.tk c).kn ++ known r c from ha) with ha | ha
      · exact ⟨(hu.kn a ha).1, (hu.kn a ha).2.1, (hu.kn a ha).2.2.put _ (h.notcs h3)⟩
      · unfold known at ha
        by_cases h0 : r.way = 0
        · rw [if_pos h0] at ha; cases ha
        · rw [if_neg h0] at ha
          rcases List.mem_append.1 ha with ha | ha
          · by_cases hst : stays r c = true
            · rw [if_pos hst, List.mem_singleton] at ha
              subst ha
              refine ⟨h.lastOK c hst hu.f, ?_, .inl ⟨hst, rfl⟩⟩
              unfold stays at hst
              simp only [Bool.and_eq_true, decide_eq_true_eq] at hst
              exact hst.1
            · rw [if_neg hst] at ha; cases ha
          · by_cases hw : r.way = 2
            · rw [if_pos hw] at ha
              unfold Sto.of at ha
              rw [List.mem_filter] at ha
              obtain ⟨g1, g2⟩ := h.stoOK a ha.1
              refine ⟨g1, of_decide_eq_true ha.2, ?_⟩
              have : Org S0 r cs c a := .inr g2
              exact this.put _ (h.notcs h3)
            · rw [if_neg hw] at ha; cases ha
    · rw [put_same]
      intro a l e
      have e : (r.tk c).kn ++ known r c = a :: l := e
      cases hk : (r.tk c).kn with
      | nil =>
        have := hu.held0 hk
        show (r.tk c).held ≤ _ ∧ Hold val (a.rs.take (r.tk c).held)
        rw [this]
        exact ⟨Nat.zero_le _, by rw [List.take_zero]; exact Hold.nil val⟩
      | cons b m =>
        rw [hk] at e
        have : b = a := by simp at e; exact e.1
        subst this
        exact hu.held b m hk
    · rw [put_same]
      intro e
      have e : (r.tk c).kn ++ known r c = [] := e
      exact hu.held0 (List.append_eq_nil_iff.1 e).1
    · rw [put_same]; intro e; exact absurd e (by show ¬ 1 = 2; decide)
  · have : (r.put c { r.tk c with kn := (r.tk c).kn ++ known r c, st := 1 }).wts = r.wts := by
      funext i
      show ((r.put c _).tk i).wt = (r.tk i).wt
      by_cases hi : i = c
      · subst hi; rw [put_same]
      · rw [put_ne _ _ _ hi]
    rw [this]; exact h.ends
  · intro a ha
    exact ⟨by show 1 ≠ 2; decide, fun _ => List.mem_append_right _ ((hX r cs h c a ha).2 h3)⟩
theorem turn_ok (hW : RightW E) (hX : XK E val S0 Cl X) (h : Inv E val S0 Cl X r cs) : (∃ cs', Inv E val S0 Cl X (turnP E r c).1 cs') ∧ Turned r c (turnP E r c) := by
  have hX' : ∀ c a, X c a → Hold val a.rs := fun c a ha => (hX r cs h c a ha).1
  unfold turnP
  by_cases h0 : (r.tk c).st = 0
  · rw [if_pos h0]
    obtain ⟨g1, g2⟩ := tryT_ok (c := c) hW hX' (fresh_ok hX h h0) (by unfold freshP; rw [put_same])
    exact ⟨g1, (Frm.put _ _ _).trans g2.frm, g2.out⟩
  · rw [if_neg h0]
    by_cases h1 : (r.tk c).st = 1
    · rw [if_pos h1]; exact tryT_ok hW hX' h h1
    · rw [if_neg h1]
      by_cases h2 : (r.tk c).st = 2
      · rw [if_pos h2]; exact runT_ok hW h h2
      · rw [if_neg h2]
        have h3 : (r.tk c).st = 3 := by have := h.st c; omega
        exact ⟨⟨cs, h⟩, Frm.refl _ _, .inl ⟨by simp [h3], (h.sett c h3).wt, h3⟩⟩
theorem leave_ok (h : Inv E val S0 Cl X r cs) (h3 : (r.tk c).st ≠ 3) : Inv E val S0 Cl X (leaveP r c) cs := by
  have hu := h.uns c h3
  refine h.put h3 _ (by show 0 < 3; omega) ?_ (h.wt c) ?_ (fun b hb => ⟨by show 0 ≠ 2; decide, fun e => absurd e (by show ¬ 0 = 1; decide)⟩)
  · refine { f := hu.f, lt := hu.lt, kn := ?_, held := ?_, held0 := ?_, run := ?_ }
    · rw [put_same]; exact fun a ha => ⟨(hu.kn a ha).1, (hu.kn a ha).2.1, (hu.kn a ha).2.2.put _ (h.notcs h3)⟩
    · rw [put_same]; exact hu.held
    · rw [put_same]; exact hu.held0
    · rw [put_same]; intro e; exact absurd e (by show ¬ 0 = 2; decide)
  · have : (r.put c { r.tk c with st := 0 }).wts = r.wts := by
      funext i
      show ((r.put c _).tk i).wt = (r.tk i).wt
      by_cases hi : i = c
      · subst hi; rw [put_same]
      · rw [put_ne _ _ _ hi]
    rw [this]; exact h.ends
end
end Go.Proofs.YtiocnfambeochaaGreatDoor

/- Plain mathematics: the three orders come to an end, and then all cells are settled. -/
set_option linter.unusedVariables false
set_option linter.unusedSimpArgs false
namespace Go.Proofs.YtiocnfambeochaaGreatDoor

def iter {S : Type} (f : S → S) : Nat → S → S
  | 0, s => s
  | n + 1, s => iter f n (f s)
/-- Step by step from s on the first end is s'. -/
def Ends {S : Type} (f : S → S) (fin : S → Bool) (s s' : S) : Prop := ∃ n, iter f n s = s' ∧ fin s' = true ∧ ∀ k, k < n → fin (iter f k s) = false
theorem Ends.here {S : Type} {f : S → S} {fin : S → Bool} {s : S} (h : fin s = true) : Ends f fin s s := ⟨0, rfl, h, fun k hk => absurd hk (by omega)⟩
theorem Ends.step {S : Type} {f : S → S} {fin : S → Bool} {s s' : S} (h : fin s = false) (he : Ends f fin (f s) s') : Ends f fin s s' := by
  obtain ⟨n, h1, h2, h3⟩ := he
  refine ⟨n + 1, h1, h2, fun k hk => ?_⟩
  cases k with
  | zero => exact h
  | succ k => exact h3 k (by omega)
theorem Ends.same {S : Type} {f : S → S} {fin : S → Bool} {s s1 s2 : S} (h1 : Ends f fin s s1) (h2 : Ends f fin s s2) : s1 = s2 := by
  obtain ⟨n, a1, a2, a3⟩ := h1
  obtain ⟨m, b1, b2, b3⟩ := h2
  rcases Nat.lt_trichotomy n m with h | h | h
  · have := b3 n h; rw [a1, a2] at this; cases this
  · subst h; rw [← a1, ← b1]
  · have := a3 m h; rw [b1, b2] at this; cases this
theorem ends_of {S : Type} {f : S → S} {fin : S → Bool} (P : S → Prop) (m : S → Nat) (hs : ∀ s, P s → fin s = false → P (f s) ∧ m (f s) < m s) : ∀ (k : Nat) (s : S), m s ≤ k → P s → ∃ s', Ends f fin s s' ∧ P s' := by
  intro k
  induction k with
  | zero =>
    intro s hm hP
    cases hf : fin s with
    | true => exact ⟨s, Ends.here hf, hP⟩
    | false => have := (hs s hP hf).2; omega
  | succ k ih =>
    intro s hm hP
    cases hf : fin s with
    | true => exact ⟨s, Ends.here hf, hP⟩
    | false =>
      obtain ⟨h1, h2⟩ := hs s hP hf
      obtain ⟨s', g1, g2⟩ := ih (f s) (by omega) h1
      exact ⟨s', g1.step hf, g2⟩

theorem countP_same {l : List Nat} {p q : Nat → Bool} (h : ∀ x ∈ l, q x = p x) : l.countP q = l.countP p := by
  induction l with
  | nil => rfl
  | cons a l ih =>
    rw [List.countP_cons, List.countP_cons, ih (fun x hx => h x (List.mem_cons_of_mem _ hx)), h a List.mem_cons_self]
theorem countP_one {l : List Nat} (hl : l.Nodup) {p q : Nat → Bool} {c : Nat} (hc : c ∈ l) (h : ∀ x, x ≠ c → q x = p x) (hp : p c = false) (hq : q c = true) : l.countP q = l.countP p + 1 := by
  induction l with
  | nil => cases hc
  | cons a l ih =>
    rw [List.nodup_cons] at hl
    rw [List.countP_cons, List.countP_cons]
    by_cases e : a = c
    · subst e
      rw [countP_same (l := l) (p := p) (q := q) (fun x hx => h x (fun e => hl.1 (e ▸ hx))), hp, hq]
      simp
    · have hc' : c ∈ l := by
        rcases List.mem_cons.1 hc with h | h
        · exact absurd h.symm e
        · exact h
      rw [ih hl.2 hc', h a e]
      omega
/-- How many cells are not settled; how many of them wait for one that is not. -/
def unsB (r : Rn) (c : Nat) : Bool := decide ((r.tk c).st ≠ 3)
def waitB (r : Rn) (c : Nat) : Bool := decide ((r.tk c).st ≠ 3) && (decide (0 ≤ (r.tk c).wt) && decide ((r.tk (r.tk c).wt.toNat).st ≠ 3))
def cu (r : Rn) : Nat := (List.range 48).countP (unsB r)
def cw (r : Rn) : Nat := (List.range 48).countP (waitB r)
theorem cu_le (r : Rn) : cu r ≤ 48 := by
  have := List.countP_le_length (p := unsB r) (l := List.range 48)
  rw [List.length_range] at this; exact this
theorem cw_le (r : Rn) : cw r ≤ 48 := by
  have := List.countP_le_length (p := waitB r) (l := List.range 48)
  rw [List.length_range] at this; exact this
def msr (r : Rn) : Nat := 49 * cu r + (48 - cw r)
theorem msr_le (r : Rn) : msr r ≤ 2400 := by have := cu_le r; unfold msr; omega

theorem frm_settled {r r' : Rn} {c : Nat} (hf : Frm r r' c) (hlt : c < 48) (h : (r.tk c).st ≠ 3) (h' : (r'.tk c).st = 3) : msr r' < msr r := by
  have h1 : cu r = cu r' + 1 := by
    refine countP_one List.nodup_range (List.mem_range.2 hlt) (fun x hx => ?_) ?_ ?_
    · unfold unsB; rw [hf.tk x hx]
    · simp [unsB, h']
    · simp [unsB, h]
  have := cw_le r'
  unfold msr
  omega
theorem frm_waits {r r' : Rn} {c o : Nat} (hf : Frm r r' c) (hlt : c < 48) (h : waitB r c = false) (hu : (r.tk c).st ≠ 3) (hw : Waits r' c o) : msr r' < msr r := by
  have hst : ∀ x, ((r'.tk x).st ≠ 3) ↔ ((r.tk x).st ≠ 3) := by
    intro x
    by_cases hx : x = c
    · subst hx; exact ⟨fun _ => hu, fun _ => hw.mine⟩
    · rw [hf.tk x hx]
  have h1 : cu r' = cu r := countP_same fun x _ => by unfold unsB; rw [decide_eq_decide]; exact hst x
  have h2 : cw r' = cw r + 1 := by
    refine countP_one List.nodup_range (List.mem_range.2 hlt) (fun x hx => ?_) h ?_
    · unfold waitB
      rw [hf.tk x hx]
      congr 2
      rw [decide_eq_decide]
      exact hst _
    · unfold waitB
      rw [hw.wt]
      simp [hw.mine, hw.open']
  have := cw_le r'
  unfold msr
  omega

/-- No ring in what each waits for. -/
theorem no_ring {wt : Nat → Int} (h : EndW wt) {x m : Nat} (hr : along wt (m + 1) x = x) : False := by
  have add : ∀ (a b : Nat) (y : Int), along wt (a + b) y = along wt b (along wt a y) := by
    intro a
    induction a with
    | zero => intro b y; rw [Nat.zero_add]; rfl
    | succ a ih => intro b y; rw [Nat.succ_add]; exact ih b _
  have neg : ∀ n, along wt n (-1) = -1 := by
    intro n
    induction n with
    | zero => rfl
    | succ n ih => exact ih
  have loop : ∀ k, along wt (k * (m + 1)) x = x := by
    intro k
    induction k with
    | zero => rw [Nat.zero_mul]; rfl
    | succ k ih => rw [Nat.succ_mul, add, ih, hr]
  obtain ⟨n, hn⟩ := h x
  have h1 := loop n
  have : n * (m + 1) = n + n * m := by rw [Nat.mul_add, Nat.mul_one, Nat.add_comm]
  rw [this, add, hn, neg] at h1
  omega

/-- A stack of cells, each of which waits for the one above it; who else waits, waits for what is settled. -/
def Stk (r : Rn) : List Nat → Prop
  | [] => True
  | [_] => True
  | a :: b :: t => (r.tk b).wt = a ∧ (r.tk b).st ≠ 3 ∧ Stk r (b :: t)
structure SI (r : Rn) (l : List Nat) : Prop where
  stk : Stk r l
  nd : l.Nodup
  lt : ∀ x ∈ l, x < 48
  only : ∀ x, waitB r x = true → x ∈ l.tail
theorem Stk.along {r : Rn} : ∀ (l : List Nat) (a : Nat), Stk r (a :: l) → ∀ x ∈ l, ∃ m, along r.wts (m + 1) x = a
  | [], _, _, x, hx => by cases hx
  | b :: t, a, ⟨h1, h2, h3⟩, x, hx => by
    rcases List.mem_cons.1 hx with rfl | hx
    · refine ⟨0, ?_⟩
      show (if 0 ≤ (x : Int) then r.wts (x : Int).toNat else -1) = a
      rw [if_pos (by omega), Int.toNat_natCast]; exact h1
    · obtain ⟨m, hm⟩ := Stk.along t b h3 x hx
      refine ⟨m + 1, ?_⟩
      have add : ∀ (a b : Nat) (y : Int), Go.Proofs.YtiocnfambeochaaGreatDoor.along r.wts (a + b) y = Go.Proofs.YtiocnfambeochaaGreatDoor.along r.wts b (Go.Proofs.YtiocnfambeochaaGreatDoor.along r.wts a y) := by
        intro a
        induction a with
        | zero => intro b y; rw [Nat.zero_add]; rfl
        | succ a ih => intro b y; rw [Nat.succ_add]; exact ih b _
      rw [show m + 1 + 1 = (m + 1) + 1 from rfl, add, hm]
      show (if 0 ≤ (b : Int) then r.wts (b : Int).toNat else -1) = a
      rw [if_pos (by omega), Int.toNat_natCast]; exact h1
theorem Stk.frm {r r' : Rn} {c : Nat} (hf : Frm r r' c) : ∀ (l : List Nat), c ∉ l.tail → Stk r l → Stk r' l
  | [], _, _ => trivial
  | [_], _, _ => trivial
  | a :: b :: t, hn, ⟨h1, h2, h3⟩ => by
    have hb : b ≠ c := fun e => hn (by rw [e]; exact List.mem_cons_self)
    refine ⟨by rw [hf.tk b hb]; exact h1, by rw [hf.tk b hb]; exact h2, Stk.frm hf (b :: t) (fun hm => hn ?_) h3⟩
    exact List.mem_cons_of_mem _ hm
section
variable {E : Env} {val : Nat → V} {S0 : Con} {Cl : Nat → Prop} {X : Nat → Ans → Prop} {r r' : Rn} {cs : List Nat} {c o : Nat} {t : List Nat}
theorem SI.first (h : SI r (c :: t)) : waitB r c = false := by
  cases e : waitB r c with
  | false => rfl
  | true => exact absurd (h.only c e) (List.nodup_cons.1 h.nd).1
theorem SI.fail (h : SI r (c :: t)) (hi : Inv E val S0 Cl X r' cs) (hf : Frm r r' c) (hu : (r.tk c).st ≠ 3) (hw : Waits r' c o) : SI r' (o :: c :: t) := by
  have hct := (List.nodup_cons.1 h.nd).1
  have hs : Stk r' (c :: t) := Stk.frm hf _ hct h.stk
  have ho : o ∉ t := by
    intro hm
    obtain ⟨m, hm⟩ := Stk.along t c hs o hm
    refine no_ring hi.ends (x := c) (m := m + 1) ?_
    show along r'.wts (m + 1) (if 0 ≤ (c : Int) then r'.wts (c : Int).toNat else -1) = c
    rw [if_pos (by omega), Int.toNat_natCast]
    show along r'.wts (m + 1) (r'.tk c).wt = c
    rw [hw.wt]; exact hm
  refine { stk := ⟨hw.wt, hw.mine, hs⟩, nd := ?_, lt := ?_, only := ?_ }
  · rw [List.nodup_cons]
    refine ⟨fun hm => ?_, h.nd⟩
    rcases List.mem_cons.1 hm with e | hm
    · exact hw.ne e
    · exact ho hm
  · intro x hx
    rcases List.mem_cons.1 hx with rfl | hx
    · exact hw.lt
    · exact h.lt x hx
  · intro x hx
    show x ∈ c :: t
    by_cases e : x = c
    · rw [e]; exact List.mem_cons_self
    · have : waitB r x = true := by
        unfold waitB at hx ⊢
        rw [hf.tk x e] at hx
        simp only [Bool.and_eq_true, decide_eq_true_eq] at hx ⊢
        refine ⟨hx.1, hx.2.1, ?_⟩
        by_cases e2 : (r.tk x).wt.toNat = c
        · rw [e2]; exact hu
        · rw [← hf.tk _ e2]; exact hx.2.2
      exact List.mem_cons_of_mem _ (h.only x this)
theorem SI.pop (h : SI r (c :: t)) (hf : Frm r r' c) (h3 : (r'.tk c).st = 3) : SI r' t := by
  have hct := (List.nodup_cons.1 h.nd).1
  have hs : Stk r' (c :: t) := Stk.frm hf _ hct h.stk
  refine { stk := ?_, nd := (List.nodup_cons.1 h.nd).2, lt := fun x hx => h.lt x (List.mem_cons_of_mem _ hx), only := ?_ }
  · cases t with
    | nil => trivial
    | cons b t => exact hs.2.2
  · intro x hx
    have e : x ≠ c := by
      intro e
      subst e
      simp [waitB, h3] at hx
    unfold waitB at hx
    simp only [Bool.and_eq_true, decide_eq_true_eq] at hx
    have e2 : (r'.tk x).wt.toNat ≠ c := by
      intro e2
      rw [e2] at hx
      exact hx.2.2 h3
    have : waitB r x = true := by
      unfold waitB
      rw [hf.tk x e] at hx e2
      rw [hf.tk _ e2] at hx
      simp only [Bool.and_eq_true, decide_eq_true_eq]
      exact hx
    have hm : x ∈ t := h.only x this
    cases t with
    | nil => cases hm
    | cons b t =>
      rcases List.mem_cons.1 hm with rfl | hm
      · exfalso
        have : (r'.tk x).wt = c := hs.1
        rw [this] at e2
        exact e2 (Int.toNat_natCast c)
      · exact hm
theorem SI.leave {l : List Nat} (h : SI r l) (h3 : (r.tk c).st ≠ 3) : SI (leaveP r c) l := by
  have hst : ∀ x, (((leaveP r c).tk x).st ≠ 3) ↔ ((r.tk x).st ≠ 3) := by
    intro x
    unfold leaveP
    by_cases hx : x = c
    · subst hx; rw [put_same]; exact ⟨fun _ => h3, fun _ => by show 0 ≠ 3; decide⟩
    · rw [put_ne _ _ _ hx]
  have hwt : ∀ x, ((leaveP r c).tk x).wt = (r.tk x).wt := by
    intro x
    unfold leaveP
    by_cases hx : x = c
    · subst hx; rw [put_same]
    · rw [put_ne _ _ _ hx]
  have hwb : ∀ x, waitB (leaveP r c) x = waitB r x := by
    intro x
    unfold waitB
    rw [hwt x]
    congr 1
    · rw [decide_eq_decide]; exact hst x
    · congr 1
      rw [decide_eq_decide]; exact hst _
  refine { stk := ?_, nd := h.nd, lt := h.lt, only := fun x hx => h.only x (by rw [← hwb]; exact hx) }
  have : ∀ l, Stk r l → Stk (leaveP r c) l := by
    intro l
    induction l with
    | nil => intro _; trivial
    | cons a l ih =>
      cases l with
      | nil => intro _; trivial
      | cons b l => intro ⟨g1, g2, g3⟩; exact ⟨by rw [hwt]; exact g1, (hst b).2 g2, ih g3⟩
  exact this _ h.stk
theorem msr_leave (h3 : (r.tk c).st ≠ 3) : msr (leaveP r c) = msr r := by
  have hst : ∀ x, (((leaveP r c).tk x).st ≠ 3) ↔ ((r.tk x).st ≠ 3) := by
    intro x
    unfold leaveP
    by_cases hx : x = c
    · subst hx; rw [put_same]; exact ⟨fun _ => h3, fun _ => by show 0 ≠ 3; decide⟩
    · rw [put_ne _ _ _ hx]
  have hwt : ∀ x, ((leaveP r c).tk x).wt = (r.tk x).wt := by
    intro x
    unfold leaveP
    by_cases hx : x = c
    · subst hx; rw [put_same]
    · rw [put_ne _ _ _ hx]
  have h1 : cu (leaveP r c) = cu r := countP_same fun x _ => by unfold unsB; rw [decide_eq_decide]; exact hst x
  have h2 : cw (leaveP r c) = cw r := countP_same fun x _ => by
    unfold waitB
    rw [hwt x]
    congr 1
    · rw [decide_eq_decide]; exact hst x
    · congr 1
      rw [decide_eq_decide]; exact hst _
  unfold msr
  rw [h1, h2]
end

/-- What a turn that was not settled, and then is or waits, makes of the count. -/
theorem turn_less {E : Env} {val : Nat → V} {S0 : Con} {Cl : Nat → Prop} {X : Nat → Ans → Prop} {r : Rn} {cs : List Nat} {c : Nat} (hi : Inv E val S0 Cl X r cs) (hu : (r.tk c).st ≠ 3) (hb : waitB r c = false)
    {t : Rn × Int × Bool} (ht : Turned r c t) : msr t.1 < msr r := by
  have hlt := (hi.uns c hu).lt
  rcases ht.out with ⟨_, _, h⟩ | ⟨_, o, _, h⟩
  · exact frm_settled ht.frm hlt hu h
  · exact frm_waits ht.frm hlt hb hu h
theorem turn_settled {E : Env} {r : Rn} {c : Nat} (h : (r.tk c).st = 3) : turnP E r c = (r, (r.tk c).wt, true) := by
  unfold turnP
  rw [if_neg (by omega), if_neg (by omega), if_neg (by omega)]
  simp [h]
end Go.Proofs.YtiocnfambeochaaGreatDoor

/- Plain mathematics: Chain, Restart, Suspend: each comes to an end; then all cells are settled. -/
set_option linter.unusedVariables false
set_option linter.unusedSimpArgs false
namespace Go.Proofs.YtiocnfambeochaaGreatDoor

/-- A cell is moved to a place ahead of it. -/
def moveP (p c : Nat) (l : List Nat) : List Nat := l.take p ++ c :: (l.drop p).erase c
structure CS where
  at' : Nat
  ch : List Nat
  r : Rn
def chainF (E : Env) (s : CS) : CS :=
  let c := s.ch.getD s.at' 0
  let t := turnP E s.r c
  if t.2.2 = true then ⟨s.at' + 1, s.ch, t.1⟩ else ⟨s.at', moveP s.at' t.2.1.toNat s.ch, leaveP t.1 c⟩
def chainE (s : CS) : Bool := decide (48 ≤ s.at')
structure QS where
  q : List Nat
  r : Rn
def stillB (r : Rn) (c : Nat) : Bool := decide ((r.tk c).wt ≠ -1) && decide ((r.tk (r.tk c).wt.toNat).st ≠ 3)
def queueF (E : Env) (s : QS) : QS :=
  match s.q with
  | [] => s
  | c :: t =>
    if stillB s.r c = true then ⟨t ++ [c], s.r⟩
    else
      let u := turnP E s.r c
      if u.2.2 = true then ⟨t, u.1⟩ else ⟨t ++ [c], leaveP u.1 c⟩
def stackF (E : Env) (s : QS) : QS :=
  match s.q with
  | [] => s
  | c :: t =>
    let u := turnP E s.r c
    if u.2.2 = true then ⟨t, u.1⟩ else ⟨u.2.1.toNat :: c :: t, u.1⟩
def queueE (s : QS) : Bool := s.q.isEmpty
/-- Suspend: from this cell on so many. -/
def Sus (E : Env) : Nat → Nat → Rn → Rn → Prop
  | 0, _, r, r' => r' = r
  | k + 1, c, r, r' => ∃ r1, Ends (stackF E) queueE ⟨[c], r⟩ ⟨[], r1⟩ ∧ Sus E k (c + 1) r1 r'
/-- What a chain is: all cells. -/
structure ChOK (ch : List Nat) : Prop where
  len : ch.length = 48
  all : ∀ c, c < 48 → c ∈ ch
  only : ∀ c ∈ ch, c < 48
/-- Of what does not change. -/
structure Frd (r r' : Rn) : Prop where
  fs : r'.fs = r.fs
  last : r'.last = r.last
  way : r'.way = r.way
  done : ∀ x, (r.tk x).st = 3 → (r'.tk x).st = 3
theorem Frd.refl (r : Rn) : Frd r r := ⟨rfl, rfl, rfl, fun _ h => h⟩
theorem Frd.trans {r r' r'' : Rn} (h : Frd r r') (g : Frd r' r'') : Frd r r'' := ⟨g.fs.trans h.fs, g.last.trans h.last, g.way.trans h.way, fun x hx => g.done x (h.done x hx)⟩
theorem Turned.frd {r : Rn} {c : Nat} {t : Rn × Int × Bool} (h : Turned r c t) (hs : (r.tk c).st = 3 → (t.1.tk c).st = 3) : Frd r t.1 :=
  ⟨h.frm.fs, h.frm.last, h.frm.way, fun x hx => by
    by_cases e : x = c
    · rw [e] at hx ⊢; exact hs hx
    · rw [h.frm.tk x e]; exact hx⟩
theorem frd_leave (r : Rn) {c : Nat} (h3 : (r.tk c).st ≠ 3) : Frd r (leaveP r c) :=
  ⟨rfl, rfl, rfl, fun x hx => by
    by_cases e : x = c
    · rw [e] at hx; exact absurd hx h3
    · unfold leaveP; rw [put_ne _ _ _ e]; exact hx⟩

section
variable {E : Env} {val : Nat → V} {S0 : Con} {Cl : Nat → Prop} {X : Nat → Ans → Prop}
theorem stack_step (hW : RightW E) (hX : XK E val S0 Cl X) {r : Rn} {cs : List Nat} {c : Nat} {t : List Nat} (hi : Inv E val S0 Cl X r cs) (hs : SI r (c :: t)) :
    (stackF E ⟨c :: t, r⟩ = ⟨t, (turnP E r c).1⟩ ∧ (turnP E r c).2.2 = true ∧ SI (turnP E r c).1 t ∧ ((turnP E r c).1.tk c).st = 3 ∨
      ∃ o, stackF E ⟨c :: t, r⟩ = ⟨o :: c :: t, (turnP E r c).1⟩ ∧ (turnP E r c).2.2 = false ∧ (turnP E r c).2.1 = (o : Nat) ∧ SI (turnP E r c).1 (o :: c :: t) ∧ Waits (turnP E r c).1 c o ∧ (r.tk c).st ≠ 3) ∧
    (∃ cs', Inv E val S0 Cl X (turnP E r c).1 cs') ∧ Frd r (turnP E r c).1 ∧ (((r.tk c).st ≠ 3 → msr (turnP E r c).1 < msr r) ∧ ((r.tk c).st = 3 → (turnP E r c).1 = r)) := by
  obtain ⟨⟨cs', g1⟩, g2⟩ := turn_ok (c := c) hW hX hi
  have hset : (r.tk c).st = 3 → (turnP E r c).1 = r := fun h => by rw [turn_settled h]
  refine ⟨?_, ⟨cs', g1⟩, g2.frd (fun h => by rw [hset h]; exact h), fun hu => turn_less hi hu hs.first g2, hset⟩
  rcases g2.out with ⟨h1, h2, h3⟩ | ⟨h1, o, h2, hw⟩
  · left; exact ⟨by simp [stackF, h1], h1, hs.pop g2.frm h3, h3⟩
  · right
    have hu : (r.tk c).st ≠ 3 := by
      intro e; rw [turn_settled e] at h1; cases h1
    exact ⟨o, by simp [stackF, h1, h2], h1, h2, hs.fail g1 g2.frm hu hw, hw, hu⟩

theorem stack_all (hW : RightW E) (hX : XK E val S0 Cl X) {r : Rn} {cs : List Nat} {c : Nat} (hlt : c < 48) (hi : Inv E val S0 Cl X r cs) (hn : ∀ x, waitB r x = false) :
    ∃ r', Ends (stackF E) queueE ⟨[c], r⟩ ⟨[], r'⟩ ∧ (∃ cs', Inv E val S0 Cl X r' cs') ∧ Frd r r' ∧ (r'.tk c).st = 3 ∧ ∀ x, waitB r' x = false := by
  have h0 : SI r [c] := { stk := trivial, nd := by simp, lt := by intro x hx; rw [List.mem_singleton] at hx; rw [hx]; exact hlt, only := fun x hx => by rw [hn x] at hx; cases hx }
  obtain ⟨s', e1, ⟨cs', i1⟩, i2, i3, i4⟩ := ends_of (f := stackF E) (fin := queueE) (fun s => (∃ cs, Inv E val S0 Cl X s.r cs) ∧ SI s.r s.q ∧ Frd r s.r ∧ ((s.r.tk c).st = 3 ∨ c ∈ s.q)) (fun s => 100 * msr s.r + s.q.length) (by
    rintro ⟨q, u⟩ ⟨⟨cs1, j1⟩, j2, j3, j4⟩ hf
    dsimp only at j1 j2 j3 j4 ⊢
    cases q with
    | nil => cases hf
    | cons b t =>
      obtain ⟨k1, k2, k3, k4, k5⟩ := stack_step hW hX j1 j2
      rcases k1 with ⟨e, kt, ks, k3'⟩ | ⟨o, e, kt, ko, ks, kw, ku⟩
      · rw [e]
        refine ⟨⟨k2, ks, j3.trans k3, ?_⟩, ?_⟩
        · rcases j4 with j4 | j4
          · exact .inl (k3.done c j4)
          · rcases List.mem_cons.1 j4 with rfl | j4
            · exact .inl k3'
            · exact .inr j4
        · by_cases hu : (u.tk b).st = 3
          · rw [k5 hu]; simp
          · have := k4 hu; simp only [List.length_cons]; omega
      · rw [e]
        refine ⟨⟨k2, ks, j3.trans k3, ?_⟩, ?_⟩
        · rcases j4 with j4 | j4
          · exact .inl (k3.done c j4)
          · exact .inr (List.mem_cons_of_mem _ j4)
        · have := k4 ku; simp only [List.length_cons]; omega) _ ⟨[c], r⟩ (Nat.le_refl _) ⟨⟨cs, hi⟩, h0, Frd.refl r, .inr (by simp)⟩
  obtain ⟨q', r'⟩ := s'
  have hq : q' = [] := by
    obtain ⟨n, _, hf, _⟩ := e1
    simpa [queueE] using hf
  subst hq
  refine ⟨r', e1, ⟨cs', i1⟩, i3, ?_, fun x => ?_⟩
  · rcases i4 with i4 | i4
    · exact i4
    · cases i4
  · cases hb : waitB r' x with
    | false => rfl
    | true => have := i2.only x hb; cases this

theorem sus_all (hW : RightW E) (hX : XK E val S0 Cl X) : ∀ (k c : Nat) (r : Rn) (cs : List Nat), c + k ≤ 48 → Inv E val S0 Cl X r cs → (∀ x, waitB r x = false) →
    ∃ r', Sus E k c r r' ∧ (∃ cs', Inv E val S0 Cl X r' cs') ∧ Frd r r' ∧ ∀ x, c ≤ x → x < c + k → (r'.tk x).st = 3
  | 0, c, r, cs, _, hi, _ => ⟨r, rfl, ⟨cs, hi⟩, Frd.refl r, fun x h1 h2 => absurd h2 (by omega)⟩
  | k + 1, c, r, cs, hk, hi, hn => by
    obtain ⟨r1, e1, ⟨cs1, i1⟩, i2, i3, i4⟩ := stack_all hW hX (c := c) (by omega) hi hn
    obtain ⟨r', j1, j2, j3, j4⟩ := sus_all hW hX k (c + 1) r1 cs1 (by omega) i1 i4
    refine ⟨r', ⟨r1, e1, j1⟩, j2, i2.trans j3, fun x h1 h2 => ?_⟩
    by_cases e : x = c
    · rw [e]; exact j3.done c i3
    · exact j4 x (by omega) (by omega)

theorem chain_all (hW : RightW E) (hX : XK E val S0 Cl X) {r : Rn} {cs : List Nat} {ch : List Nat} (hc : ChOK ch) (hi : Inv E val S0 Cl X r cs) (hn : ∀ x, waitB r x = false) :
    ∃ ch' r', Ends (chainF E) chainE ⟨0, ch, r⟩ ⟨48, ch', r'⟩ ∧ (∃ cs', Inv E val S0 Cl X r' cs') ∧ Frd r r' ∧ ChOK ch' ∧ ∀ x, x < 48 → (r'.tk x).st = 3 := by
  obtain ⟨s', e1, ⟨cs', i1⟩, i2, i3, i4, i5⟩ := ends_of (f := chainF E) (fin := chainE)
    (fun s => (∃ cs, Inv E val S0 Cl X s.r cs) ∧ ChOK s.ch ∧ Frd r s.r ∧ (s.at' ≤ 48 ∧ (∀ x ∈ s.ch.take s.at', (s.r.tk x).st = 3)) ∧ ∃ stk rest, s.ch.drop s.at' = stk ++ rest ∧ SI s.r stk)
    (fun s => 100 * msr s.r + (48 - s.at')) (by
    rintro ⟨at', l, u⟩ ⟨⟨cs1, j1⟩, j2, j3, ⟨j4, j5⟩, stk, rest, j6, j7⟩ hf
    have hat : at' < 48 := by simpa [chainE] using hf
    have hlen := j2.len
    dsimp only at j1 j2 j3 j4 j5 j6 j7 hlen ⊢
    obtain ⟨c, t, rest, j6, j7⟩ : ∃ c t rest, l.drop at' = (c :: t) ++ rest ∧ SI u (c :: t) := by
      cases stk with
      | cons c t => exact ⟨c, t, rest, j6, j7⟩
      | nil =>
        cases rest with
        | nil =>
          exfalso
          have := congrArg List.length j6
          rw [List.length_drop] at this
          simp at this
          omega
        | cons c rest =>
          refine ⟨c, [], rest, j6, { stk := trivial, nd := by simp, lt := ?_, only := fun x hx => (by have := j7.only x hx; cases this) }⟩
          intro x hx
          rw [List.mem_singleton] at hx
          subst hx
          exact j2.only x (List.mem_of_mem_drop (i := at') (by rw [j6]; simp))
    have hget : l[at']? = some c := by
      have := congrArg (fun m => m[0]?) j6
      simpa using this
    have hgd : l.getD at' 0 = c := by rw [List.getD_eq_getElem?_getD, hget]; rfl
    obtain ⟨k1, k2, k3, k4, k5⟩ := stack_step hW hX j1 j7
    rcases k1 with ⟨_, kt, ks, k3'⟩ | ⟨o, _, kt, ko, ks, kw, ku⟩
    · have e : chainF E ⟨at', l, u⟩ = ⟨at' + 1, l, (turnP E u c).1⟩ := by
        simp only [chainF, hgd, kt, if_true]
      rw [e]
      refine ⟨⟨k2, j2, j3.trans k3, ⟨by show at' + 1 ≤ 48; omega, ?_⟩, t, rest, ?_, ks⟩, ?_⟩
      · intro x hx
        have hx : x ∈ l.take (at' + 1) := hx
        rw [take_next hget, List.mem_append, List.mem_singleton] at hx
        rcases hx with hx | rfl
        · exact k3.done x (j5 x hx)
        · exact k3'
      · show l.drop (at' + 1) = t ++ rest
        exact (drop_head j6).2
      · show 100 * msr (turnP E u c).1 + (48 - (at' + 1)) < 100 * msr u + (48 - at')
        by_cases hu : (u.tk c).st = 3
        · rw [k5 hu]; omega
        · have := k4 hu; omega
    · have e : chainF E ⟨at', l, u⟩ = ⟨at', moveP at' o l, leaveP (turnP E u c).1 c⟩ := by
        simp only [chainF, hgd, kt, ko]
        simp
      rw [e]
      have hnd := ks.nd
      have ho1 : o ∉ c :: t := (List.nodup_cons.1 hnd).1
      have ho2 : o ∈ l.drop at' := by
        have hm : o ∈ l := j2.all o kw.lt
        rw [← List.take_append_drop at' l, List.mem_append] at hm
        rcases hm with hm | hm
        · exact absurd (k3.done o (j5 o hm)) kw.open'
        · exact hm
      have ho3 : o ∈ rest := by
        rw [j6, List.mem_append] at ho2
        rcases ho2 with h | h
        · exact absurd h ho1
        · exact h
      have hdr : (moveP at' o l).drop at' = (o :: c :: t) ++ rest.erase o := by
        unfold moveP
        rw [List.drop_append_of_le_length (by rw [List.length_take]; omega), List.drop_eq_nil_of_le (by rw [List.length_take]; omega), j6, List.erase_append_right _ ho1]
        rfl
      have htk : (moveP at' o l).take at' = l.take at' := by
        unfold moveP
        rw [List.take_append_of_le_length (by rw [List.length_take]; omega), List.take_of_length_le (by rw [List.length_take]; omega)]
      refine ⟨⟨?_, ?_, ?_, ⟨j4, ?_⟩, o :: c :: t, rest.erase o, hdr, ks.leave kw.mine⟩, ?_⟩
      · obtain ⟨cs2, k2⟩ := k2; exact ⟨cs2, leave_ok k2 kw.mine⟩
      · refine { len := ?_, all := ?_, only := ?_ }
        · show (moveP at' o l).length = 48
          unfold moveP
          rw [List.length_append, List.length_cons, List.length_erase_of_mem ho2, List.length_take, List.length_drop]
          have : 0 < (l.drop at').length := List.length_pos_of_mem ho2
          rw [List.length_drop] at this
          omega
        · intro x hx
          show x ∈ moveP at' o l
          unfold moveP
          have hm : x ∈ l := j2.all x hx
          rw [← List.take_append_drop at' l, List.mem_append] at hm
          rw [List.mem_append]
          rcases hm with hm | hm
          · exact .inl hm
          · right
            by_cases e : x = o
            · rw [e]; exact List.mem_cons_self
            · exact List.mem_cons_of_mem _ ((List.mem_erase_of_ne e).2 hm)
        · intro x hx
          have hx : x ∈ moveP at' o l := hx
          unfold moveP at hx
          rw [List.mem_append] at hx
          rcases hx with hx | hx
          · exact j2.only x (List.mem_of_mem_take hx)
          · rcases List.mem_cons.1 hx with rfl | hx
            · exact kw.lt
            · exact j2.only x (List.mem_of_mem_drop (List.mem_of_mem_erase hx))
      · exact (j3.trans k3).trans (frd_leave _ kw.mine)
      · intro x hx
        have hx : x ∈ (moveP at' o l).take at' := hx
        rw [htk] at hx
        exact (frd_leave _ kw.mine).done x (k3.done x (j5 x hx))
      · show 100 * msr (leaveP (turnP E u c).1 c) + (48 - at') < 100 * msr u + (48 - at')
        rw [msr_leave kw.mine]
        have := k4 ku
        omega) _ ⟨0, ch, r⟩ (Nat.le_refl _)
      ⟨⟨cs, hi⟩, hc, Frd.refl r, ⟨by show 0 ≤ 48; omega, by intro x hx; simp at hx⟩, [], ch, rfl, { stk := trivial, nd := by simp, lt := by simp, only := fun x hx => by rw [hn x] at hx; cases hx }⟩
  obtain ⟨at', ch', r'⟩ := s'
  dsimp only at i1 i2 i3 i4 i5
  have hat : at' = 48 := by
    obtain ⟨n, _, hf, _⟩ := e1
    have : 48 ≤ at' := by simpa [chainE] using hf
    omega
  subst hat
  refine ⟨ch', r', e1, ⟨cs', i1⟩, i3, i2, fun x hx => i4.2 x ?_⟩
  rw [List.take_of_length_le (by rw [i2.len]; omega)]
  exact i2.all x hx

theorem queue_all (hW : RightW E) (hX : XK E val S0 Cl X) {r : Rn} {cs : List Nat} (hi : Inv E val S0 Cl X r cs) :
    ∃ r', Ends (queueF E) queueE ⟨List.range 48, r⟩ ⟨[], r'⟩ ∧ (∃ cs', Inv E val S0 Cl X r' cs') ∧ Frd r r' ∧ ∀ x, x < 48 → (r'.tk x).st = 3 := by
  obtain ⟨s', e1, ⟨cs', i1⟩, i2, i3, i4⟩ := ends_of (f := queueF E) (fin := queueE)
    (fun s => (∃ cs, Inv E val S0 Cl X s.r cs) ∧ Frd r s.r ∧ (∀ x, x < 48 → (s.r.tk x).st ≠ 3 → x ∈ s.q) ∧ s.q.length ≤ 48)
    (fun s => 10000 * msr s.r + 100 * s.q.length + s.q.findIdx (fun c => !stillB s.r c)) (by
    rintro ⟨q, u⟩ ⟨⟨cs1, j1⟩, j2, j3, j4⟩ hf
    dsimp only at j1 j2 j3 j4 ⊢
    cases q with
    | nil => cases hf
    | cons c t =>
      have hlen : ∀ (m : List Nat) (v : Rn), m.findIdx (fun c => !stillB v c) ≤ m.length := fun m v => List.findIdx_le_length
      by_cases hst : stillB u c = true
      · have e : queueF E ⟨c :: t, u⟩ = ⟨t ++ [c], u⟩ := by simp only [queueF, hst, if_true]
        rw [e]
        have hex : ∃ x ∈ c :: t, stillB u x = false := by
          refine Classical.byContradiction fun hno => ?_
          have hall : ∀ x ∈ c :: t, stillB u x = true := fun x hx => by
            cases hb : stillB u x with
            | true => rfl
            | false => exact absurd ⟨x, hx, hb⟩ hno
          have hgo : ∀ n, ∀ x ∈ c :: t, ∃ y ∈ c :: t, along u.wts n x = (y : Int) := by
            intro n
            induction n with
            | zero => intro x hx; exact ⟨x, hx, rfl⟩
            | succ n ih =>
              intro x hx
              have hb := hall x hx
              unfold stillB at hb
              simp only [Bool.and_eq_true, decide_eq_true_eq] at hb
              obtain ⟨w1, w2⟩ := j1.wt x
              have h0 : 0 ≤ (u.tk x).wt := by omega
              obtain ⟨y, hy, he⟩ := ih (u.tk x).wt.toNat (j3 _ (w2 h0).2 hb.2)
              refine ⟨y, hy, ?_⟩
              show along u.wts n (if 0 ≤ (x : Int) then u.wts (x : Int).toNat else -1) = y
              rw [if_pos (by omega), Int.toNat_natCast]
              show along u.wts n (u.tk x).wt = y
              rw [← Int.toNat_of_nonneg h0]; exact he
          obtain ⟨n, hn⟩ := j1.ends c
          obtain ⟨y, _, hy⟩ := hgo n c List.mem_cons_self
          rw [hn] at hy; omega
        obtain ⟨x, hx, hxb⟩ := hex
        have hxt : x ∈ t := by
          rcases List.mem_cons.1 hx with rfl | hx
          · rw [hxb] at hst; cases hst
          · exact hx
        have hft : t.findIdx (fun c => !stillB u c) < t.length := List.findIdx_lt_length_of_exists ⟨x, hxt, by simp [hxb]⟩
        refine ⟨⟨⟨cs1, j1⟩, j2, ?_, ?_⟩, ?_⟩
        · intro y hy hy3
          rcases List.mem_cons.1 (j3 y hy hy3) with rfl | h
          · simp
          · exact List.mem_append_left _ h
        · simp at j4 ⊢; omega
        · show 10000 * msr u + 100 * (t ++ [c]).length + (t ++ [c]).findIdx (fun c => !stillB u c) < 10000 * msr u + 100 * (c :: t).length + (c :: t).findIdx (fun c => !stillB u c)
          rw [List.findIdx_append, if_pos hft, List.findIdx_cons]
          simp [hst]
      · have hst' : stillB u c = false := by simpa using hst
        obtain ⟨⟨cs2, g1⟩, g2⟩ := turn_ok (c := c) hW hX j1
        have hset : (u.tk c).st = 3 → (turnP E u c).1 = u := fun h => by rw [turn_settled h]
        have hfr : Frd u (turnP E u c).1 := g2.frd (fun h => by rw [hset h]; exact h)
        have hwb : waitB u c = false := by
          unfold stillB at hst'
          unfold waitB
          obtain ⟨w1, w2⟩ := j1.wt c
          by_cases h0 : 0 ≤ (u.tk c).wt
          · have hne : (u.tk c).wt ≠ -1 := by omega
            simp [hne] at hst'
            simp [hst']
          · simp [h0]
        rcases g2.out with ⟨h1, h2, h3⟩ | ⟨h1, o, h2, hw⟩
        · have e : queueF E ⟨c :: t, u⟩ = ⟨t, (turnP E u c).1⟩ := by simp only [queueF, hst', h1, if_true]; simp
          rw [e]
          refine ⟨⟨⟨cs2, g1⟩, j2.trans hfr, ?_, by simp at j4; show t.length ≤ 48; omega⟩, ?_⟩
          · intro y hy hy3
            have hyc : y ≠ c := fun e => hy3 (e ▸ h3)
            have : (u.tk y).st ≠ 3 := by rw [← g2.frm.tk y hyc]; exact hy3
            rcases List.mem_cons.1 (j3 y hy this) with rfl | h
            · exact absurd rfl hyc
            · exact h
          · show 10000 * msr (turnP E u c).1 + 100 * t.length + t.findIdx _ < 10000 * msr u + 100 * (c :: t).length + _
            have hl := hlen t (turnP E u c).1
            simp only [List.length_cons] at j4 ⊢
            by_cases hu : (u.tk c).st = 3
            · rw [hset hu] at hl ⊢; omega
            · have := turn_less j1 hu hwb g2; omega
        · have hu : (u.tk c).st ≠ 3 := by
            intro e; rw [turn_settled e] at h1; cases h1
          have e : queueF E ⟨c :: t, u⟩ = ⟨t ++ [c], leaveP (turnP E u c).1 c⟩ := by simp only [queueF, hst', h1]; simp
          rw [e]
          refine ⟨⟨⟨cs2, leave_ok g1 hw.mine⟩, (j2.trans hfr).trans (frd_leave _ hw.mine), ?_, by simp at j4 ⊢; omega⟩, ?_⟩
          · intro y hy hy3
            have hy4 : (u.tk y).st ≠ 3 := fun h => hy3 ((frd_leave _ hw.mine).done y (hfr.done y h))
            rcases List.mem_cons.1 (j3 y hy hy4) with rfl | h
            · simp
            · exact List.mem_append_left _ h
          · show 10000 * msr (leaveP (turnP E u c).1 c) + 100 * (t ++ [c]).length + (t ++ [c]).findIdx _ < 10000 * msr u + 100 * (c :: t).length + _
            have hl := hlen (t ++ [c]) (leaveP (turnP E u c).1 c)
            rw [msr_leave hw.mine]
            have := turn_less j1 hu hwb g2
            simp only [List.length_cons, List.length_append, List.length_nil] at j4 hl ⊢
            omega) _ ⟨List.range 48, r⟩ (Nat.le_refl _) ⟨⟨cs, hi⟩, Frd.refl r, fun x hx _ => List.mem_range.2 hx, by simp⟩
  obtain ⟨q', r'⟩ := s'
  have hq : q' = [] := by
    obtain ⟨n, _, hf, _⟩ := e1
    simpa [queueE] using hf
  subst hq
  refine ⟨r', e1, ⟨cs', i1⟩, i2, fun x hx => ?_⟩
  refine Classical.byContradiction fun h => ?_
  have := i3 x hx h
  cases this
end
end Go.Proofs.YtiocnfambeochaaGreatDoor

/- Plain mathematics: Work as a whole: what is kept, how a round begins, dirty marks, what comes of it. -/
set_option linter.unusedVariables false
set_option linter.unusedSimpArgs false
namespace Go.Proofs.YtiocnfambeochaaGreatDoor

/-- What is kept from one Work to the next. -/
structure Kp where
  last : Nat → Ans
  ch : List Nat
  store : Sto
/-- Dirty, by so many steps. -/
def dn (fs : Nat → ByteArray) (last : Nat → Ans) : Nat → Nat → Prop
  | 0, c => ¬ ((last c).f = fs c ∧ (last c).v ≠ cyc)
  | n + 1, c => dn fs last n c ∨ ∃ x ∈ (last c).rs, dn fs last n x.nd.c
def MarkOK (fs : Nat → ByteArray) (last : Nat → Ans) (mk : Nat → Bool) : Prop := ∀ c, mk c = true ↔ ∃ n, dn fs last n c
theorem mark_ex (fs : Nat → ByteArray) (last : Nat → Ans) : ∃ mk, MarkOK fs last mk := by
  have : ∀ c, ∃ b : Bool, b = true ↔ ∃ n, dn fs last n c := by
    intro c
    by_cases h : ∃ n, dn fs last n c
    · exact ⟨true, by simp [h]⟩
    · exact ⟨false, by simp [h]⟩
  exact ⟨fun c => Classical.choose (this c), fun c => Classical.choose_spec (this c)⟩
theorem MarkOK.same {fs : Nat → ByteArray} {last : Nat → Ans} {mk mk' : Nat → Bool} (h : MarkOK fs last mk) (h' : MarkOK fs last mk') : mk = mk' := by
  funext c
  rw [Bool.eq_iff_iff, h c, h' c]
def tk0 (fs : Nat → ByteArray) (last : Nat → Ans) (way : Nat) (mk : Nat → Bool) (c : Nat) : Tsk :=
  if fs c = eB then ⟨3, -1, [], 0, retA vN, ans0⟩ else if way = 0 ∧ mk c = false then ⟨3, -1, [], 0, retA vN, last c⟩ else ⟨0, -1, [], 0, retA vN, ans0⟩
def newP (fs : Nat → ByteArray) (k : Kp) (way : Nat) (mk : Nat → Bool) : Rn := ⟨fs, k.last, k.store, way, tk0 fs k.last way mk, []⟩
def roundP (E : Env) (order : Nat) (r : Rn) (ch : List Nat) (r' : Rn) (ch' : List Nat) : Prop :=
  (order = 0 ∧ Ends (chainF E) chainE ⟨0, ch, r⟩ ⟨48, ch', r'⟩) ∨ (order = 1 ∧ Ends (queueF E) queueE ⟨List.range 48, r⟩ ⟨[], r'⟩ ∧ ch' = ch) ∨ (order = 2 ∧ Sus E 48 0 r r' ∧ ch' = ch)
def workedP (k : Kp) (fs : Nat → ByteArray) : Prop := ∀ c, c < 48 → (k.last c).f = fs c
def WorkP (E : Env) (k : Kp) (fs : Nat → ByteArray) (order way : Nat) (k' : Kp) (bg : List Nat) : Prop :=
  (workedP k fs ∧ k' = k ∧ bg = []) ∨ (¬ workedP k fs ∧ ∃ mk r' ch', MarkOK fs k.last mk ∧ roundP E order (newP fs k way mk) k.ch r' ch' ∧ k' = ⟨fun c => (r'.tk c).an, ch', r'.store⟩ ∧ bg = r'.bg)
theorem Sus.same {E : Env} : ∀ (k c : Nat) (r r1 r2 : Rn), Sus E k c r r1 → Sus E k c r r2 → r1 = r2
  | 0, _, _, _, _, h1, h2 => h1.trans h2.symm
  | k + 1, c, r, r1, r2, ⟨u1, a1, b1⟩, ⟨u2, a2, b2⟩ => by
    have := a1.same a2
    cases this
    exact Sus.same k (c + 1) _ _ _ b1 b2
theorem roundP.same {E : Env} {order : Nat} {r r1 r2 : Rn} {ch c1 c2 : List Nat} (h1 : roundP E order r ch r1 c1) (h2 : roundP E order r ch r2 c2) : r1 = r2 ∧ c1 = c2 := by
  rcases h1 with ⟨o1, e1⟩ | ⟨o1, e1, f1⟩ | ⟨o1, e1, f1⟩ <;> rcases h2 with ⟨o2, e2⟩ | ⟨o2, e2, f2⟩ | ⟨o2, e2, f2⟩ <;> try omega
  · have := e1.same e2
    cases this; exact ⟨rfl, rfl⟩
  · have := e1.same e2
    cases this; exact ⟨rfl, f1.trans f2.symm⟩
  · exact ⟨Sus.same _ _ _ _ _ e1 e2, f1.trans f2.symm⟩
theorem WorkP.same {E : Env} {k k1 k2 : Kp} {fs : Nat → ByteArray} {order way : Nat} {b1 b2 : List Nat} (h1 : WorkP E k fs order way k1 b1) (h2 : WorkP E k fs order way k2 b2) : k1 = k2 ∧ b1 = b2 := by
  rcases h1 with ⟨a, e, f⟩ | ⟨a, mk, r', ch', m, h, e, f⟩ <;> rcases h2 with ⟨a', e', f'⟩ | ⟨a', mk', r'', ch'', m', h', e', f'⟩
  · exact ⟨e.trans e'.symm, f.trans f'.symm⟩
  · exact absurd a a'
  · exact absurd a' a
  · have := m.same m'
    subst this
    obtain ⟨rfl, rfl⟩ := h.same h'
    exact ⟨e.trans e'.symm, f.trans f'.symm⟩

/-- What is kept is right by these formulas. -/
structure KInv (E : Env) (fs : Nat → ByteArray) (k : Kp) : Prop where
  fit : ∀ c, fs c ≠ eB → ActN (E.B (fs c)) (E.D (fs c))
  out : ∀ c, 48 ≤ c → fs c = eB
  f : ∀ c, (k.last c).f = fs c
  v : ∀ c, Val E.D fs c (k.last c).v
  none : ∀ c, fs c = eB → k.last c = ans0
  good : ∀ c, fs c ≠ eB → (k.last c).v ≠ cyc → VA E (k.last c) ∧ Hold (fun c => (k.last c).v) (k.last c).rs
  ch : ChOK k.ch
  sw : SW k.store
  sto : ∀ a ∈ k.store.has, VA E a
/-- These formulas may be. -/
structure FsOK (E : Env) (fs : Nat → ByteArray) : Prop where
  fit : ∀ c, fs c ≠ eB → ActN (E.B (fs c)) (E.D (fs c))
  out : ∀ c, 48 ≤ c → fs c = eB
theorem KInv.fs {E : Env} {fs : Nat → ByteArray} {k : Kp} (h : KInv E fs k) : FsOK E fs := ⟨h.fit, h.out⟩
theorem clean_ev {E : Env} {fs0 fs : Nat → ByteArray} {k : Kp} (hk : KInv E fs0 k) {mk : Nat → Bool} (hm : MarkOK fs k.last mk) : ∀ (n c : Nat) (v : V), mk c = false → ev E.D fs0 n c v → ev E.D fs n c v
  | 0, _, _, _, h => h
  | n + 1, c, v, hc, h => by
    have hn : ¬ ∃ n, dn fs k.last n c := fun h => by rw [(hm c).2 h] at hc; cases hc
    have h0 : (k.last c).f = fs c ∧ (k.last c).v ≠ cyc := Classical.byContradiction fun h => hn ⟨0, h⟩
    have hf : fs0 c = fs c := by rw [← hk.f c]; exact h0.1
    rcases h with ⟨h1, h2⟩ | ⟨h1, rs, h2, h3, h4⟩
    · exact .inl ⟨by rw [← hf]; exact h1, h2⟩
    · refine .inr ⟨by rw [← hf]; exact h1, rs, by rw [← hf]; exact h2, by rw [← hf]; exact h3, fun x hx => ?_⟩
      obtain ⟨⟨g0, g1, g2, g3⟩, g4⟩ := hk.good c h1 h0.2
      rw [hk.f c] at g1 g2
      have hs := (tr_same rs (k.last c).rs _ _ _ h2 g1 h3 g2 fun r hr r' hr' e => by
        obtain ⟨u, k1, k2⟩ := h4 r hr
        obtain ⟨w1, w2⟩ := g4 r' hr'
        have : u = (k.last r.nd.c).v := Val.same (D := E.D) (fs := fs0) (.inl ⟨n, k1⟩) (hk.v _)
        rw [k2, w1, ← e, this]).1
      obtain ⟨u, k1, k2⟩ := h4 x hx
      refine ⟨u, clean_ev hk hm n _ u ?_ k1, k2⟩
      cases hb : mk x.nd.c with
      | false => rfl
      | true =>
        obtain ⟨m, hm⟩ := (hm _).1 hb
        exact absurd ⟨m + 1, .inr ⟨x, by rw [← hs]; exact hx, hm⟩⟩ hn
theorem new_inv {E : Env} {fs0 fs : Nat → ByteArray} {k : Kp} (hk : KInv E fs0 k) (hfs : FsOK E fs) {mk : Nat → Bool} (hm : MarkOK fs k.last mk) (way : Nat) {val : Nat → V} (hv : ∀ c, Val E.D fs c (val c)) (X : Nat → Ans → Prop) :
    Inv E val ⟨k.store, fs, k.last, way⟩ (fun c => way = 0 ∧ mk c = false) X (newP fs k way mk) [] := by
  have tkE : ∀ c, fs c = eB → (newP fs k way mk).tk c = ⟨3, -1, [], 0, retA vN, ans0⟩ := fun c h => by show tk0 _ _ _ _ _ = _; unfold tk0; rw [if_pos h]
  have tkC : ∀ c, fs c ≠ eB → way = 0 ∧ mk c = false → (newP fs k way mk).tk c = ⟨3, -1, [], 0, retA vN, k.last c⟩ := fun c h h' => by show tk0 _ _ _ _ _ = _; unfold tk0; rw [if_neg h, if_pos h']
  have tkF : ∀ c, fs c ≠ eB → ¬ (way = 0 ∧ mk c = false) → (newP fs k way mk).tk c = ⟨0, -1, [], 0, retA vN, ans0⟩ := fun c h h' => by show tk0 _ _ _ _ _ = _; unfold tk0; rw [if_neg h, if_neg h']
  have hwt : ∀ c, ((newP fs k way mk).tk c).wt = -1 := by
    intro c
    by_cases h : fs c = eB
    · rw [tkE c h]
    · by_cases h' : way = 0 ∧ mk c = false
      · rw [tkC c h h']
      · rw [tkF c h h']
  have clean : ∀ c, way = 0 ∧ mk c = false → (k.last c).f = fs c ∧ (k.last c).v ≠ cyc ∧ val c = (k.last c).v := by
    intro c hc
    have hn : ¬ ∃ n, dn fs k.last n c := fun h => by have := hc.2; rw [(hm c).2 h] at this; cases this
    have h0 : (k.last c).f = fs c ∧ (k.last c).v ≠ cyc := Classical.byContradiction fun h => hn ⟨0, h⟩
    obtain ⟨n, hn⟩ := (hk.v c).ev h0.2
    exact ⟨h0.1, h0.2, (hv c).same (.inl ⟨n, clean_ev hk hm n c _ hc.2 hn⟩)⟩
  refine { hv := hv, fit := hfs.fit, con := ⟨rfl, rfl, rfl⟩, st := ?_, sett := ?_, uns := ?_, wt := ?_, ends := ?_, sto := rfl, sw := hk.sw, stoOK := fun a ha => ⟨hk.sto a ha, .inl ha⟩, lastOK := ?_, nodup := by simp, csOK := by simp, bg := fun c hc => (by cases hc), bgE := fun _ => rfl, done := ?_, cl := ?_, x := ?_ }
  · intro c
    by_cases h : fs c = eB
    · rw [tkE c h]; exact Nat.le_refl _
    · by_cases h' : way = 0 ∧ mk c = false
      · rw [tkC c h h']; exact Nat.le_refl _
      · rw [tkF c h h']; exact Nat.zero_le _
  · intro c h3
    by_cases h : fs c = eB
    · exact { wt := hwt c, f := by rw [tkE c h]; exact h.symm, v := by rw [tkE c h]; exact ((hv c).none h).symm, good := fun g => absurd h g, none := fun _ => by rw [tkE c h] }
    · by_cases h' : way = 0 ∧ mk c = false
      · obtain ⟨c1, c2, c3⟩ := clean c h'
        refine { wt := hwt c, f := by rw [tkC c h h']; exact c1, v := by rw [tkC c h h']; exact c3.symm, good := fun _ _ => ?_, none := fun g => absurd g h }
        rw [tkC c h h']
        have hf : fs0 c = fs c := by rw [← hk.f c]; exact c1
        obtain ⟨g1, g2⟩ := hk.good c (by rw [hf]; exact h) c2
        refine ⟨g1, fun x hx => ?_⟩
        obtain ⟨w1, w2⟩ := g2 x hx
        have hcx : way = 0 ∧ mk x.nd.c = false := by
          refine ⟨h'.1, ?_⟩
          cases hb : mk x.nd.c with
          | false => rfl
          | true =>
            obtain ⟨m, hm'⟩ := (hm _).1 hb
            have : mk c = true := (hm c).2 ⟨m + 1, .inr ⟨x, hx, hm'⟩⟩
            rw [h'.2] at this; cases this
        rw [(clean _ hcx).2.2]
        exact ⟨w1, w2⟩
      · rw [tkF c h h'] at h3; cases h3
  · intro c h3
    by_cases h : fs c = eB
    · rw [tkE c h] at h3; exact absurd rfl h3
    · by_cases h' : way = 0 ∧ mk c = false
      · rw [tkC c h h'] at h3; exact absurd rfl h3
      · refine { f := h, lt := ?_, kn := ?_, held := ?_, held0 := ?_, run := ?_ }
        · exact Nat.lt_of_not_le fun hc => h (hfs.out c hc)
        · rw [tkF c h h']; intro a ha; cases ha
        · rw [tkF c h h']; intro a l e; cases e
        · rw [tkF c h h']; intro _; rfl
        · rw [tkF c h h']; intro e; cases e
  · intro c; rw [hwt c]; exact ⟨Int.le_refl _, fun e => absurd e (by decide)⟩
  · intro c
    refine ⟨1, ?_⟩
    show (if 0 ≤ (c : Int) then (newP fs k way mk).wts (c : Int).toNat else -1) = -1
    rw [if_pos (by omega), Int.toNat_natCast]
    exact hwt c
  · intro c hs h0
    have hs : (decide ((k.last c).f = fs c) && !(k.last c).v.eqB cyc) = true := hs
    simp only [Bool.and_eq_true, decide_eq_true_eq, Bool.not_eq_true'] at hs
    refine (hk.good c ?_ ?_).1
    · rw [← hk.f c, hs.1]; exact h0
    · intro e; rw [e, eqB_self] at hs; cases hs.2
  · intro c h3 h
    have h : fs c ≠ eB := h
    by_cases h' : way = 0 ∧ mk c = false
    · exact .inr (.inl h')
    · rw [tkF c h h'] at h3; cases h3
  · intro c h3 h'
    by_cases h : fs c = eB
    · rw [tkE c h] at h3; exact h3 rfl
    · rw [tkC c h h'] at h3; exact h3 rfl
  · intro c a _
    refine ⟨fun h => (by cases h), ?_, ?_⟩
    · by_cases h : fs c = eB
      · rw [tkE c h]; decide
      · by_cases h' : way = 0 ∧ mk c = false
        · rw [tkC c h h']; show 3 ≠ 2; decide
        · rw [tkF c h h']; decide
    · by_cases h : fs c = eB
      · rw [tkE c h]; intro e; cases e
      · by_cases h' : way = 0 ∧ mk c = false
        · rw [tkC c h h']; intro e; cases e
        · rw [tkF c h h']; intro e; cases e
theorem new_wait (fs : Nat → ByteArray) (k : Kp) (way : Nat) (mk : Nat → Bool) (c : Nat) : waitB (newP fs k way mk) c = false := by
  have : ((newP fs k way mk).tk c).wt = -1 := by
    show (tk0 _ _ _ _ _).wt = _
    unfold tk0
    split
    · rfl
    · split <;> rfl
  unfold waitB
  rw [this]
  simp
/-- What comes of a Work that was to be done. -/
structure Done (E : Env) (k : Kp) (fs : Nat → ByteArray) (way : Nat) (X : Nat → Ans → Prop) (k' : Kp) (bg : List Nat) : Prop where
  ex : ∃ mk r' cs, MarkOK fs k.last mk ∧ Inv E (fun c => (k'.last c).v) ⟨k.store, fs, k.last, way⟩ (fun c => way = 0 ∧ mk c = false) X r' cs ∧ (∀ c, (r'.tk c).st = 3) ∧ k'.last = (fun c => (r'.tk c).an) ∧ k'.store = r'.store ∧ bg = r'.bg
theorem work_ok {E : Env} (hW : RightW E) {fs0 fs : Nat → ByteArray} {k : Kp} (hk : KInv E fs0 k) (hfs : FsOK E fs) {order way : Nat} (ho : order < 3) (X : Nat → Ans → Prop)
    (hX : ∀ val mk, (∀ c, Val E.D fs c (val c)) → MarkOK fs k.last mk → XK E val ⟨k.store, fs, k.last, way⟩ (fun c => way = 0 ∧ mk c = false) X) :
    ∃ k' bg, WorkP E k fs order way k' bg ∧ KInv E fs k' ∧ (¬ workedP k fs → Done E k fs way X k' bg) := by
  by_cases hw : workedP k fs
  · refine ⟨k, [], .inl ⟨hw, rfl, rfl⟩, ?_, fun h => absurd hw h⟩
    have : fs = fs0 := by
      funext c
      by_cases hc : c < 48
      · rw [← hw c hc, hk.f c]
      · rw [hfs.out c (by omega), hk.out c (by omega)]
    rw [this]; exact hk
  · obtain ⟨val, hv⟩ := val_all E.D fs
    obtain ⟨mk, hm⟩ := mark_ex fs k.last
    have h0 := new_inv hk hfs hm way hv X
    have hX := hX val mk hv hm
    obtain ⟨r', ch', e1, ⟨cs, i1⟩, i2, i3, i4⟩ : ∃ r' ch', roundP E order (newP fs k way mk) k.ch r' ch' ∧ (∃ cs, Inv E val ⟨k.store, fs, k.last, way⟩ (fun c => way = 0 ∧ mk c = false) X r' cs) ∧ Frd (newP fs k way mk) r' ∧ ChOK ch' ∧ ∀ x, x < 48 → (r'.tk x).st = 3 := by
      have : order = 0 ∨ order = 1 ∨ order = 2 := by omega
      rcases this with h | h | h
      · obtain ⟨ch', r', a, b, c, d, e⟩ := chain_all hW hX hk.ch h0 (new_wait fs k way mk)
        exact ⟨r', ch', .inl ⟨h, a⟩, b, c, d, e⟩
      · obtain ⟨r', a, b, c, e⟩ := queue_all hW hX h0
        exact ⟨r', k.ch, .inr (.inl ⟨h, a, rfl⟩), b, c, hk.ch, e⟩
      · obtain ⟨r', a, b, c, e⟩ := sus_all hW hX 48 0 _ _ (by omega) h0 (new_wait fs k way mk)
        exact ⟨r', k.ch, .inr (.inr ⟨h, a, rfl⟩), b, c, hk.ch, fun x hx => e x (by omega) (by omega)⟩
    have hfs' : r'.fs = fs := i2.fs
    have hall : ∀ x, (r'.tk x).st = 3 := by
      intro x
      by_cases hx : x < 48
      · exact i4 x hx
      · refine i2.done x ?_
        show (tk0 _ _ _ _ _).st = 3
        unfold tk0
        rw [if_pos (hfs.out x (by omega))]
    have hval : (fun c => (r'.tk c).an.v) = val := by
      funext c; exact (i1.sett c (hall c)).v
    refine ⟨⟨fun c => (r'.tk c).an, ch', r'.store⟩, r'.bg, .inr ⟨hw, mk, r', ch', hm, e1, rfl, rfl⟩, ?_, fun _ => ⟨mk, r', cs, hm, ?_, hall, rfl, rfl, rfl⟩⟩
    · refine { fit := hfs.fit, out := hfs.out, f := ?_, v := ?_, none := ?_, good := ?_, ch := i3, sw := i1.sw, sto := fun a ha => (i1.stoOK a ha).1 }
      · intro c; rw [← hfs']; exact (i1.sett c (hall c)).f
      · intro c
        show Val E.D fs c (r'.tk c).an.v
        rw [(i1.sett c (hall c)).v]; exact hv c
      · intro c h; rw [← hfs'] at h; exact (i1.sett c (hall c)).none h
      · intro c h hc
        have hc : (r'.tk c).an.v ≠ cyc := hc
        rw [(i1.sett c (hall c)).v] at hc
        rw [← hfs'] at h
        show VA E (r'.tk c).an ∧ Hold (fun c => (r'.tk c).an.v) (r'.tk c).an.rs
        rw [hval]
        exact (i1.sett c (hall c)).good h hc
    · show Inv E (fun c => (r'.tk c).an.v) _ _ X r' cs
      rw [hval]; exact i1
end Go.Proofs.YtiocnfambeochaaGreatDoor
