/- Plain mathematics of formulas: bytes, tokens, the parser's steps. No program stands in it. -/
import Derived.WalkKit
import Derived.Lib.ParseIntB
import Derived.Lib.IndexLaws
import Derived.Lib.IndexBytes
namespace Go.Proofs.YtabcicijjdggdaaDoor

def dgB (c : Int) : Bool := decide (48 ≤ c ∧ c ≤ 57)
def ltB (c : Int) : Bool := decide ((65 ≤ c ∧ c ≤ 90) ∨ (97 ≤ c ∧ c ≤ 122))
def pbB (c : Int) : Bool := decide (32 ≤ c ∧ c ≤ 126 ∧ c ≠ 34)
def ldB (c : Int) : Bool := ltB c || dgB c

def sgnI (c : Int) : Int :=
  if c = 40 then 12 else if c = 41 then 13 else if c = 44 then 14 else if c = 58 then 15 else if c = 43 then 16 else if c = 45 then 17
  else if c = 42 then 18 else if c = 47 then 19 else if c = 38 then 20 else if c = 61 then 21 else if c = 60 then 22 else 0

/-- How many bytes at the head are such. -/
def spn (p : Int → Bool) : List UInt8 → Nat
  | [] => 0
  | c :: r => if p (c.toNat : Int) = true then spn p r + 1 else 0

theorem spn_le (p : Int → Bool) (l : List UInt8) : spn p l ≤ l.length := by
  induction l with
  | nil => simp [spn]
  | cons c r ih => simp only [spn, List.length_cons]; split <;> omega

/-- One letter A to Z, one digit or more. -/
def celB (l : List UInt8) : Bool :=
  match l with
  | [] => false
  | c :: r => decide (65 ≤ (c.toNat : Int) ∧ (c.toNat : Int) ≤ 90) && (decide (1 ≤ r.length) && decide (spn dgB r = r.length))

def wrdI (l : List UInt8) : Int :=
  if l = [116, 114, 117, 101] then 3 else if l = [102, 97, 108, 115, 101] then 4 else if l = [105, 102] then 6 else if l = [97, 116] then 7
  else if l = [98, 97, 100] then 8 else if l = [115, 117, 109] then 9 else if l = [99, 111, 117, 110, 116] then 10 else if celB l = true then 5 else 11

/-- What a row of digits is worth. -/
def valN (l : List UInt8) : Nat := l.foldl (fun n c => 10 * n + (c.toNat - 48)) 0

def numI (l : List UInt8) : Int × Nat :=
  if 19 < spn dgB l then (0, 0) else if 9223372036854775807 < valN (l.take (spn dgB l)) then (0, 0) else (1, spn dgB l)
def wdI (l : List UInt8) : Int × Nat :=
  if 5 < spn ldB l then (0, 0) else (wrdI (l.take (spn ldB l)), spn ldB l)
def qtI (r : List UInt8) : Int × Nat :=
  if r[spn pbB r]? = some 34 ∧ spn pbB r ≤ 20 then (2, spn pbB r + 2) else (0, 0)
def qtT (l : List UInt8) : Int × Nat := qtI (l.drop 1)
/-- The kind (0: none) and the size of the token that a text begins with. -/
def tok1 (l : List UInt8) : Int × Nat :=
  match l with
  | [] => (0, 0)
  | c :: _ => if dgB (c.toNat : Int) = true then numI l else if ltB (c.toNat : Int) = true then wdI l else if c = 34 then qtT l else (sgnI (c.toNat : Int), 1)

theorem spn_take (p : Int → Bool) : ∀ l : List UInt8, ∀ c ∈ l.take (spn p l), p (c.toNat : Int) = true
  | [], c, h => by simp at h
  | a :: r, c, h => by
    unfold spn at h
    split at h
    · rw [List.take_succ_cons] at h
      rcases List.mem_cons.1 h with rfl | h
      · assumption
      · exact spn_take p r c h
    · simp at h

theorem spn_next (p : Int → Bool) : ∀ (l : List UInt8) (c : UInt8), l[spn p l]? = some c → p (c.toNat : Int) = false
  | [], c, h => by simp at h
  | a :: r, c, h => by
    unfold spn at h
    split at h
    · rw [List.getElem?_cons_succ] at h
      exact spn_next p r c h
    · simp only [List.getElem?_cons_zero, Option.some.injEq] at h
      subst h; exact Bool.eq_false_iff.2 ‹¬ _›

theorem fold_le : ∀ (l : List UInt8) (acc : Nat), acc * 10 ^ l.length ≤ l.foldl (fun n c => 10 * n + (c.toNat - 48)) acc
  | [], acc => by simp
  | c :: r, acc => by
    rw [List.foldl_cons, List.length_cons, Nat.pow_succ]
    refine Nat.le_trans ?_ (fold_le r _)
    have : acc * (10 ^ r.length * 10) = (10 * acc) * 10 ^ r.length := by rw [Nat.mul_comm (10 ^ r.length), ← Nat.mul_assoc, Nat.mul_comm acc 10]
    rw [this]
    exact Nat.mul_le_mul_right _ (by omega)

theorem parseM_digits : ∀ (l : List UInt8) (acc : Nat), (∀ c ∈ l, dgB (c.toNat : Int) = true) → (acc + 1) * 10 ^ l.length ≤ 10 ^ 19 →
    Lib.parseUintM (2 ^ 64 - 1) acc l = .ok (l.foldl (fun n c => 10 * n + (c.toNat - 48)) acc)
  | [], acc, _, _ => rfl
  | c :: r, acc, hd, hb => by
    have hc := hd c List.mem_cons_self
    simp only [dgB, decide_eq_true_eq] at hc
    rw [List.length_cons, Nat.pow_succ] at hb
    have e : (acc + 1) * (10 ^ r.length * 10) = (10 * acc + 10) * 10 ^ r.length := by
      rw [Nat.mul_comm (10 ^ r.length), ← Nat.mul_assoc]; congr 1; omega
    rw [e] at hb
    have h1 : 1 ≤ 10 ^ r.length := Nat.one_le_pow _ _ (by omega)
    have h2 : 10 * acc + 10 ≤ 10 ^ 19 := Nat.le_trans (Nat.le_mul_of_pos_right _ h1) hb
    have h19 : (10 : Nat) ^ 19 = 10000000000000000000 := by decide
    have h64 : (2 : Nat) ^ 64 - 1 = 18446744073709551615 := by decide
    rw [h19] at h2
    unfold Lib.parseUintM
    rw [if_pos (by omega), if_neg (by omega), if_neg (by rw [h64]; omega), List.foldl_cons, Nat.mul_comm acc 10]
    refine parseM_digits r _ (fun x hx => hd x (List.mem_cons_of_mem _ hx)) (Nat.le_trans ?_ hb)
    exact Nat.mul_le_mul_right _ (by omega)

theorem parse_digits (l : List UInt8) (h0 : l ≠ []) (hd : ∀ c ∈ l, dgB (c.toNat : Int) = true) (hl : l.length ≤ 19) :
    Lib.parseIntB 64 l = if 9223372036854775807 < valN l then .range else .ok (valN l : Int) := by
  match l, h0 with
  | c :: r, _ =>
    have hc := hd c List.mem_cons_self
    simp only [dgB, decide_eq_true_eq] at hc
    have hp := parseM_digits (c :: r) 0 hd (by
      rw [Nat.zero_add, Nat.one_mul]; exact Nat.pow_le_pow_right (by omega) hl)
    have hu : Lib.parseUintB 64 (if c.toNat = 43 ∨ c.toNat = 45 then r else c :: r) = .ok (valN (c :: r)) := by
      rw [if_neg (by omega)]
      unfold Lib.parseUintB
      rw [if_neg (by simp)]
      exact hp
    unfold Lib.parseIntB
    simp only [hu]
    have h63 : (2 : Nat) ^ (64 - 1) = 9223372036854775808 := by decide
    rw [h63]
    have hn : ¬ c.toNat = 45 := by omega
    by_cases hv : 9223372036854775807 < valN (c :: r)
    · rw [if_pos ⟨hn, by omega⟩, if_pos hv]
    · rw [if_neg (by omega), if_neg (by omega), if_neg hn, if_neg hv]

theorem qt_none (r : List UInt8) (h : Lib.indexByte r 34 = -1) : qtI r = (0, 0) := by
  unfold qtI; exact if_neg fun ⟨h1, _⟩ => Lib.indexByte_none h _ h1
theorem qt_long (r : List UInt8) (m : Nat) (h : Lib.indexByte r 34 = m) (hm : 20 < m) : qtI r = (0, 0) := by
  unfold qtI; exact if_neg fun ⟨h1, h2⟩ => (Lib.indexByte_some h).2 _ (by omega) h1
theorem qt_bad (r : List UInt8) (m : Nat) (h : Lib.indexByte r 34 = m) (hk : spn pbB r < m) : qtI r = (0, 0) := by
  unfold qtI; exact if_neg fun ⟨h1, _⟩ => (Lib.indexByte_some h).2 _ hk h1
theorem qt_ok (r : List UInt8) (m : Nat) (h : Lib.indexByte r 34 = m) (hm : m ≤ 20) (hk : spn pbB r = m) : qtI r = (2, m + 2) := by
  unfold qtI; rw [hk]; exact if_pos ⟨(Lib.indexByte_some h).1, hm⟩

theorem ret_bool {a b : Bool} (h : a = b) : Ending.returned (.bool a) = .returned (.bool b) := by rw [h]
theorem ret_int {k : IntKind} {a b : Int} (h : a = b) : Ending.returned (.int k a) = .returned (.int k b) := by rw [h]

end Go.Proofs.YtabcicijjdggdaaDoor
