/- Texts put together. -/
import Derived.Test.YtiocnfambeochaaGreatDoorQ14
import Derived.Lib.ItoaNum
import Derived.Test.YtiocnfambeochaaGreatDoorQ10
import Derived.Lib.AppendIntMem
/- Plain mathematics: formulas written out of raw bytes (the statement's own making), token by token; each is a formula whose cells there are. -/
namespace Go.Proofs.YtiocnfambeochaaGreatDoor

theorem chk_fuel : ∀ (n m : Nat) (l : List Tk), l.length ≤ n → l.length ≤ m → chk n l = chk m l
  | 0, 0, _, _, _ => rfl
  | 0, m + 1, l, h, _ => by
    have : l = [] := List.length_eq_zero_iff.1 (by omega)
    rw [this]; rfl
  | n + 1, 0, l, _, h => by
    have : l = [] := List.length_eq_zero_iff.1 (by omega)
    rw [this]; rfl
  | n + 1, m + 1, [], _, _ => rfl
  | n + 1, m + 1, t :: r, h1, h2 => by
    simp only [List.length_cons] at h1 h2
    unfold chk
    rw [chk_fuel n m r (by omega) (by omega), chk_fuel n m (r.drop 2) (by simp only [List.length_drop]; omega) (by simp only [List.length_drop]; omega)]

def CK (g : List Tk) : Prop := ∀ (post : List Tk) (n : Nat), kindAt post 0 ≠ 15 → (g ++ post).length ≤ n → chk n (g ++ post) = chk n post
theorem ck_nil : CK [] := fun _ _ _ _ => rfl
theorem ck_other {t : Tk} {g : List Tk} (h : t.k ≠ 5) (hg : CK g) : CK (t :: g) := by
  intro post n hp hn
  simp only [List.cons_append, List.length_cons, List.length_append] at hn
  obtain ⟨m, rfl⟩ : ∃ m, n = m + 1 := ⟨n - 1, by omega⟩
  have e : chk (m + 1) (t :: g ++ post) = chk m (g ++ post) := by rw [List.cons_append, chk, if_pos h]
  rw [e, hg post m hp (by rw [List.length_append]; omega)]
  exact chk_fuel _ _ _ (by omega) (by omega)
theorem ck_cell {t : Tk} {g : List Tk} (h : t.k = 5) (hc : (cn t.x).2 = true) (h15 : kindAt g 0 ≠ 15) (hg : CK g) : CK (t :: g) := by
  intro post n hp hn
  simp only [List.cons_append, List.length_cons, List.length_append] at hn
  obtain ⟨m, rfl⟩ : ∃ m, n = m + 1 := ⟨n - 1, by omega⟩
  have hk : kindAt (t :: (g ++ post)) 1 ≠ 15 := by
    show kindAt (g ++ post) 0 ≠ 15
    cases g with
    | nil => exact hp
    | cons a r => exact h15
  have hr : isR (t :: (g ++ post)) = false := by unfold isR; rw [decide_eq_false hk]; simp
  have e : chk (m + 1) (t :: g ++ post) = chk m (g ++ post) := by rw [List.cons_append, chk, if_neg (by simp [h]), hr, if_neg (by simp), if_pos hc]
  rw [e, hg post m hp (by rw [List.length_append]; omega)]
  exact chk_fuel _ _ _ (by omega) (by omega)
theorem ck_range {a m b : Tk} {g : List Tk} (ha : a.k = 5) (hm : m.k = 15) (hb : badA (cn a.x) (cn b.x) = false) (hg : CK g) : CK (a :: m :: b :: g) := by
  intro post n hp hn
  simp only [List.cons_append, List.length_cons, List.length_append] at hn
  obtain ⟨n, rfl⟩ : ∃ m, n = m + 1 := ⟨n - 1, by omega⟩
  have hr : isR (a :: m :: b :: (g ++ post)) = true := by
    unfold isR
    rw [decide_eq_true (show kindAt (a :: m :: b :: (g ++ post)) 1 = 15 from hm), decide_eq_true (by simp only [List.length_cons]; omega)]
    rfl
  have e : chk (n + 1) (a :: m :: b :: g ++ post) = chk n (g ++ post) := by
    have e0 : a :: m :: b :: g ++ post = a :: m :: b :: (g ++ post) := rfl
    rw [e0, chk, if_neg (by simp [ha]), hr, if_pos rfl]
    have e1 : txtAt (a :: m :: b :: (g ++ post)) 2 = b.x := rfl
    rw [e1, hb, if_neg (by simp)]
    rfl
  rw [e, hg post n hp (by rw [List.length_append]; omega)]
  exact chk_fuel _ _ _ (by omega) (by omega)
theorem ck_app {a b : List Tk} (ha : CK a) (hb : CK b) (hne : b ≠ []) (h15 : kindAt b 0 ≠ 15) : CK (a ++ b) := by
  intro post n hp hn
  have e : (a ++ b) ++ post = a ++ (b ++ post) := by simp
  rw [e] at hn ⊢
  rw [ha (b ++ post) n (by cases b with | nil => exact absurd rfl hne | cons x r => exact h15) hn]
  exact hb post n hp (by rw [List.length_append] at hn; omega)
theorem ck_end {g : List Tk} (h : CK g) : chk g.length g = none := by
  have := h [] g.length (by simp [kindAt]) (by simp)
  rw [List.append_nil] at this
  rw [this]
  cases g.length <;> rfl

theorem good_app {a b : List Tk} (ha : Good a) (hb : Good b) (hne : ∀ u r, b = u :: r → ldHead u.x = false) : Good (a ++ b) := by
  induction a with
  | nil => exact hb
  | cons t r ih =>
    obtain ⟨h1, h2, h3, h4⟩ := ha
    refine ⟨h1, h2, fun hl => ?_, ih h4⟩
    cases r with
    | nil =>
      cases b with
      | nil => trivial
      | cons u q => exact hne u q rfl
    | cons v q => exact h3 hl

structure FG (n : Nat) (g : List Tk) : Prop where
  is : Is 0 n g
  good : Good g
  ck : CK g
  ne : g ≠ []
  h15 : kindAt g 0 ≠ 15
theorem FG.more {n m : Nat} {g : List Tk} (h : FG n g) (hm : n ≤ m) : FG m g := ⟨h.is.more hm, h.good, h.ck, h.ne, h.h15⟩

/- Tokens by name. -/
def tk (k : Int) (x : List UInt8) : Tk := ⟨k, x, 0⟩
def tOpen : Tk := tk 12 [40]
def tClose : Tk := tk 13 [41]
def tComma : Tk := tk 14 [44]
def tColon : Tk := tk 15 [58]
def tNeg : Tk := tk 23 [45]
def tIf : Tk := tk 6 [105, 102]
def tAt : Tk := tk 7 [97, 116]
def tBad : Tk := tk 8 [98, 97, 100]
def tSum : Tk := tk 9 [115, 117, 109]
def tCount : Tk := tk 10 [99, 111, 117, 110, 116]
def tTrue : Tk := tk 3 [116, 114, 117, 101]
def tFalse : Tk := tk 4 [102, 97, 108, 115, 101]
def tText (r : List UInt8) : Tk := tk 2 (34 :: (r ++ [34]))
def tCell (n : Nat) : Tk := tk 5 [UInt8.ofNat (65 + n % 6), UInt8.ofNat (49 + n / 6)]
def tNum (x : List UInt8) : Tk := tk 1 x
def tOp (n : Nat) : Tk := if n = 0 then tk 16 [43] else if n = 1 then tk 17 [45] else if n = 2 then tk 18 [42] else if n = 3 then tk 19 [47] else tk 20 [38]
def tCmp (n : Nat) : Tk := if n = 0 then tk 22 [60] else tk 21 [61]

def nx (n : Nat) : List UInt8 → Nat × List UInt8
  | [] => (0, [])
  | c :: r => (c.toNat % n, r)

def texts (n : Nat) : List UInt8 := if n = 0 then [] else if n = 1 then [120] else if n = 2 then [65, 49] else if n = 3 then [66, 50] else if n = 4 then [67] else [90, 57]
def ranges (n : Nat) : List Tk :=
  if n = 0 then [tSum, tOpen, tCell 0, tColon, tCell 8, tClose] else if n = 1 then [tCount, tOpen, tCell 0, tColon, tCell 5, tClose]
  else if n = 2 then [tSum, tOpen, tCell 7, tColon, tCell 7, tClose] else [tCount, tOpen, tCell 3, tColon, tCell 11, tClose]

def ats (j q : Nat) : List Tk := if j = 0 then [tText [65], tOp 4, tText [49]] else if j = 1 then [tText [66, 50]] else [tCell q]

def gen : Nat → List UInt8 → List Tk × List UInt8
  | 0, fd =>
    if (nx 6 fd).1 = 0 then ([tNum (Lib.decDigits (nx 200 (nx 6 fd).2).1)], (nx 200 (nx 6 fd).2).2)
    else if (nx 6 fd).1 = 1 then ([tText (texts (nx 6 (nx 6 fd).2).1)], (nx 6 (nx 6 fd).2).2)
    else if (nx 6 fd).1 = 2 then
      ([if (nx 3 (nx 6 fd).2).1 = 0 then tTrue else if (nx 3 (nx 6 fd).2).1 = 1 then tFalse else tNum [57, 50, 50, 51, 51, 55, 50, 48, 51, 54, 56, 53, 52, 55, 55, 53, 56, 48, 55]], (nx 3 (nx 6 fd).2).2)
    else ([tCell (nx 12 (nx 6 fd).2).1], (nx 12 (nx 6 fd).2).2)
  | deep + 1, fd =>
    if (nx 9 fd).1 = 0 then
      let a := gen deep (nx 9 fd).2
      let b := gen deep a.2
      let c := gen deep b.2
      (tIf :: tOpen :: ((a.1 ++ tComma :: (b.1 ++ tComma :: c.1)) ++ [tClose]), c.2)
    else if (nx 9 fd).1 = 1 then
      let q := nx 12 (nx 9 fd).2
      let j := nx 3 q.2
      (tAt :: tOpen :: (ats j.1 q.1 ++ [tClose]), j.2)
    else if (nx 9 fd).1 = 2 then
      let a := gen deep (nx 9 fd).2
      (tBad :: tOpen :: (a.1 ++ [tClose]), a.2)
    else if (nx 9 fd).1 = 3 then (ranges (nx 4 (nx 9 fd).2).1, (nx 4 (nx 9 fd).2).2)
    else if (nx 9 fd).1 = 4 then
      let a := gen deep (nx 9 fd).2
      let j := nx 2 a.2
      let b := gen deep j.2
      (tOpen :: ((a.1 ++ tCmp j.1 :: b.1) ++ [tClose]), b.2)
    else if (nx 9 fd).1 = 5 then
      let q := nx 12 (nx 9 fd).2
      ([tNeg, tCell q.1], q.2)
    else
      let a := gen deep (nx 9 fd).2
      let j := nx 5 a.2
      let b := gen deep j.2
      ((tOpen :: (a.1 ++ [tClose])) ++ tOp j.1 :: (tOpen :: (b.1 ++ [tClose])), b.2)

/- The tokens by name are tokens. -/
theorem one_good {t : Tk} (h : TO (unm t).k t.x) (hn : t.k = 1 → nzT t.x = t.x) : Good [t] := ⟨h, hn, fun _ => trivial, trivial⟩
theorem cons_good {t : Tk} {r : List Tk} (h : TO (unm t).k t.x) (hk : t.k ≠ 1) (hs : ldHead t.x = false) (hr : Good r) : Good (t :: r) :=
  ⟨h, fun e => absurd e hk, fun e => absurd (hs.symm.trans e) (by simp), hr⟩
theorem word_good {t u : Tk} {r : List Tk} (h : TO (unm t).k t.x) (hk : t.k ≠ 1) (hs : ldHead u.x = false) (hr : Good (u :: r)) : Good (t :: u :: r) :=
  ⟨h, fun e => absurd e hk, fun _ => hs, hr⟩

theorem to_open : TO (unm tOpen).k tOpen.x := to_sign 40 (by decide) (by decide) (by decide) (by decide) (by decide)
theorem to_close : TO (unm tClose).k tClose.x := to_sign 41 (by decide) (by decide) (by decide) (by decide) (by decide)
theorem to_comma : TO (unm tComma).k tComma.x := to_sign 44 (by decide) (by decide) (by decide) (by decide) (by decide)
theorem to_colon : TO (unm tColon).k tColon.x := to_sign 58 (by decide) (by decide) (by decide) (by decide) (by decide)
theorem to_neg : TO (unm tNeg).k tNeg.x := to_sign 45 (by decide) (by decide) (by decide) (by decide) (by decide)
theorem to_op (n : Nat) : TO (unm (tOp n)).k (tOp n).x := by
  unfold tOp
  split
  · exact to_sign 43 (by decide) (by decide) (by decide) (by decide) (by decide)
  split
  · exact to_sign 45 (by decide) (by decide) (by decide) (by decide) (by decide)
  split
  · exact to_sign 42 (by decide) (by decide) (by decide) (by decide) (by decide)
  split
  · exact to_sign 47 (by decide) (by decide) (by decide) (by decide) (by decide)
  · exact to_sign 38 (by decide) (by decide) (by decide) (by decide) (by decide)
theorem to_cmp (n : Nat) : TO (unm (tCmp n)).k (tCmp n).x := by
  unfold tCmp
  split
  · exact to_sign 60 (by decide) (by decide) (by decide) (by decide) (by decide)
  · exact to_sign 61 (by decide) (by decide) (by decide) (by decide) (by decide)
theorem to_if : TO (unm tIf).k tIf.x := to_word 105 [102] (by decide) (by decide) (by decide) (by decide)
theorem to_at : TO (unm tAt).k tAt.x := to_word 97 [116] (by decide) (by decide) (by decide) (by decide)
theorem to_bad : TO (unm tBad).k tBad.x := to_word 98 [97, 100] (by decide) (by decide) (by decide) (by decide)
theorem to_sum : TO (unm tSum).k tSum.x := to_word 115 [117, 109] (by decide) (by decide) (by decide) (by decide)
theorem to_count : TO (unm tCount).k tCount.x := to_word 99 [111, 117, 110, 116] (by decide) (by decide) (by decide) (by decide)
theorem to_true : TO (unm tTrue).k tTrue.x := to_word 116 [114, 117, 101] (by decide) (by decide) (by decide) (by decide)
theorem to_false : TO (unm tFalse).k tFalse.x := to_word 102 [97, 108, 115, 101] (by decide) (by decide) (by decide) (by decide)
theorem to_txt (r : List UInt8) (hr : ∀ a ∈ r, pbB (a.toNat : Int) = true) (h : r.length ≤ 20) : TO (unm (tText r)).k (tText r).x := to_text r hr h
theorem texts_ok (n : Nat) : (∀ a ∈ texts n, pbB (a.toNat : Int) = true) ∧ (texts n).length ≤ 20 := by
  unfold texts
  repeat' split
  all_goals exact ⟨by decide, by decide⟩
theorem cells12 : ∀ n : Nat, n < 12 → TO (unm (tCell n)).k (tCell n).x ∧ (cn (tCell n).x).2 = true ∧ ldHead (tCell n).x = true
  | 0, _ => ⟨to_word 65 [49] (by decide) (by decide) (by decide) (by decide), by decide, by decide⟩
  | 1, _ => ⟨to_word 66 [49] (by decide) (by decide) (by decide) (by decide), by decide, by decide⟩
  | 2, _ => ⟨to_word 67 [49] (by decide) (by decide) (by decide) (by decide), by decide, by decide⟩
  | 3, _ => ⟨to_word 68 [49] (by decide) (by decide) (by decide) (by decide), by decide, by decide⟩
  | 4, _ => ⟨to_word 69 [49] (by decide) (by decide) (by decide) (by decide), by decide, by decide⟩
  | 5, _ => ⟨to_word 70 [49] (by decide) (by decide) (by decide) (by decide), by decide, by decide⟩
  | 6, _ => ⟨to_word 65 [50] (by decide) (by decide) (by decide) (by decide), by decide, by decide⟩
  | 7, _ => ⟨to_word 66 [50] (by decide) (by decide) (by decide) (by decide), by decide, by decide⟩
  | 8, _ => ⟨to_word 67 [50] (by decide) (by decide) (by decide) (by decide), by decide, by decide⟩
  | 9, _ => ⟨to_word 68 [50] (by decide) (by decide) (by decide) (by decide), by decide, by decide⟩
  | 10, _ => ⟨to_word 69 [50] (by decide) (by decide) (by decide) (by decide), by decide, by decide⟩
  | 11, _ => ⟨to_word 70 [50] (by decide) (by decide) (by decide) (by decide), by decide, by decide⟩
  | n + 12, h => by omega
theorem nx_lt (n : Nat) (hn : 0 < n) (fd : List UInt8) : (nx n fd).1 < n := by
  cases fd with
  | nil => exact hn
  | cons c r => exact Nat.mod_lt _ hn

theorem dec1 (u : Nat) (h : u < 10) : Lib.decDigits u = [UInt8.ofNat (48 + u)] := by rw [Lib.decDigits, dif_pos h]
theorem dec2 (u : Nat) (h : 10 ≤ u) (h2 : u < 100) : Lib.decDigits u = [UInt8.ofNat (48 + u / 10), UInt8.ofNat (48 + u % 10)] := by
  rw [Lib.decDigits, dif_neg (by omega), dec1 (u / 10) (by omega)]; rfl
theorem dec3 (u : Nat) (h : 100 ≤ u) (h2 : u < 1000) : Lib.decDigits u = [UInt8.ofNat (48 + u / 10 / 10), UInt8.ofNat (48 + u / 10 % 10), UInt8.ofNat (48 + u % 10)] := by
  rw [Lib.decDigits, dif_neg (by omega), dec2 (u / 10) (by omega) (by omega)]; rfl
theorem ofNat_digit (q : Nat) (h : q < 10) : (UInt8.ofNat (48 + q)).toNat = 48 + q := by
  rw [UInt8.toNat_ofNat']; omega
theorem dg_digit (q : Nat) (h : q < 10) : dgB ((UInt8.ofNat (48 + q)).toNat : Int) = true := by
  rw [ofNat_digit q h]; unfold dgB; simp; omega
theorem ne48 (q : Nat) (h : q < 10) (h0 : q ≠ 0) : (UInt8.ofNat (48 + q) == 48) = false := by
  rw [beq_eq_false_iff_ne]
  intro e
  have := congrArg UInt8.toNat e
  rw [ofNat_digit q h] at this
  have h48 : (48 : UInt8).toNat = 48 := rfl
  omega
theorem val_small : ∀ (l : List UInt8) (acc : Nat), (∀ c ∈ l, dgB (c.toNat : Int) = true) → l.foldl (fun n c => 10 * n + (c.toNat - 48)) acc < (acc + 1) * 10 ^ l.length
  | [], acc, _ => by simp
  | c :: r, acc, h => by
    have hc := h c List.mem_cons_self
    unfold dgB at hc
    simp only [decide_eq_true_eq] at hc
    have := val_small r (10 * acc + (c.toNat - 48)) fun a ha => h a (List.mem_cons_of_mem _ ha)
    rw [List.foldl_cons, List.length_cons, Nat.pow_succ]
    refine Nat.lt_of_lt_of_le this ?_
    have e : (acc + 1) * (10 ^ r.length * 10) = (10 * acc + 10) * 10 ^ r.length := by
      rw [Nat.mul_comm (10 ^ r.length), ← Nat.mul_assoc]; congr 1; omega
    rw [e]
    exact Nat.mul_le_mul_right _ (by omega)
theorem num_ok (c : UInt8) (r : List UInt8) (hr : ∀ a ∈ c :: r, dgB (a.toNat : Int) = true) (h : r.length ≤ 2) (h0 : r = [] ∨ (c == 48) = false) : TO (unm (tNum (c :: r))).k (tNum (c :: r)).x ∧ nzT (c :: r) = c :: r := by
  refine ⟨to_num c r hr (by omega) ?_, ?_⟩
  · have := val_small (c :: r) 0 hr
    have e : (0 + 1) * 10 ^ (c :: r).length ≤ 1000 := by
      have : (10 : Nat) ^ (c :: r).length ≤ 10 ^ 3 := Nat.pow_le_pow_right (by omega) (by simp only [List.length_cons]; omega)
      omega
    unfold valN
    omega
  · unfold nzT
    rw [List.dropWhile_cons]
    cases hc : (c == 48)
    · simp
    · rcases h0 with h0 | h0
      · subst h0
        have : c = 48 := by simpa using hc
        simp [this]
      · rw [hc] at h0; cases h0
theorem dec_ok (u : Nat) (h : u < 200) : TO (unm (tNum (Lib.decDigits u))).k (tNum (Lib.decDigits u)).x ∧ nzT (Lib.decDigits u) = Lib.decDigits u := by
  by_cases h1 : u < 10
  · rw [dec1 u h1]
    exact num_ok _ [] (by simp only [List.mem_cons, List.not_mem_nil, or_false, forall_eq]; exact dg_digit u h1) (by simp) (Or.inl rfl)
  by_cases h2 : u < 100
  · rw [dec2 u (by omega) h2]
    refine num_ok _ _ ?_ (by simp) (Or.inr (ne48 _ (by omega) (by omega)))
    intro a ha
    simp only [List.mem_cons, List.not_mem_nil, or_false] at ha
    rcases ha with rfl | rfl
    · exact dg_digit _ (by omega)
    · exact dg_digit _ (by omega)
  · rw [dec3 u (by omega) (by omega)]
    refine num_ok _ _ ?_ (by simp) (Or.inr (ne48 _ (by omega) (by omega)))
    intro a ha
    simp only [List.mem_cons, List.not_mem_nil, or_false] at ha
    rcases ha with rfl | rfl | rfl
    · exact dg_digit _ (by omega)
    · exact dg_digit _ (by omega)
    · exact dg_digit _ (by omega)

theorem fg_one {t : Tk} (hk : t.k ∈ [1, 2, 3, 4, 5]) (h : TO (unm t).k t.x) (hn : t.k = 1 → nzT t.x = t.x) (hc : t.k = 5 → (cn t.x).2 = true) : FG 0 [t] where
  is := is_form (is_sum (is_prod (is_one hk)))
  good := one_good h hn
  ck := by
    by_cases h5 : t.k = 5
    · exact ck_cell h5 (hc h5) (by simp [kindAt]) ck_nil
    · exact ck_other h5 ck_nil
  ne := by simp
  h15 := by intro e; have e : t.k = 15 := e; rw [e] at hk; revert hk; decide
theorem fg_text (r : List UInt8) (hr : ∀ a ∈ r, pbB (a.toNat : Int) = true) (h : r.length ≤ 20) : FG 0 [tText r] := fg_one (show (2 : Int) ∈ [1, 2, 3, 4, 5] by decide) (to_txt r hr h) (by intro e; cases e) (by intro e; cases e)
theorem fg_cell (n : Nat) (h : n < 12) : FG 0 [tCell n] := fg_one (show (5 : Int) ∈ [1, 2, 3, 4, 5] by decide) (cells12 n h).1 (by intro e; cases e) (fun _ => (cells12 n h).2.1)

theorem fg_closed {g : List Tk} (hg : Good g) : Good (g ++ [tClose]) := good_app hg (one_good to_close (by intro e; cases e)) (fun u r e => by cases e; decide)
theorem ck_closed {g : List Tk} (hg : CK g) : CK (g ++ [tClose]) := ck_app hg (ck_other (by decide) ck_nil) (by simp) (by decide)

theorem br_is {n : Nat} {g : List Tk} (h : FG n g) : Is 3 (n + 1) (tOpen :: (g ++ [tClose])) := is_bracket rfl rfl h.is
theorem br_good {n : Nat} {g : List Tk} (h : FG n g) : Good (tOpen :: (g ++ [tClose])) := cons_good to_open (by decide) (by decide) (fg_closed h.good)
theorem br_ck {n : Nat} {g : List Tk} (h : FG n g) : CK (tOpen :: (g ++ [tClose])) := ck_other (by decide) (ck_closed h.ck)
theorem fg_br {n : Nat} {g : List Tk} (h : FG n g) : FG (n + 1) (tOpen :: (g ++ [tClose])) := ⟨is_form (is_sum (is_prod (br_is h))), br_good h, br_ck h, by simp, show (12 : Int) ≠ 15 by decide⟩

theorem fg_call {n : Nat} {g : List Tk} {wd : Tk} (hw : wd.k ∈ [7, 8]) (ht : TO (unm wd).k wd.x) (h : FG n g) : FG (n + 1) (wd :: tOpen :: (g ++ [tClose])) where
  is := is_form (is_sum (is_prod (is_call hw rfl rfl h.is)))
  good := word_good ht (by intro e; rw [e] at hw; revert hw; decide) (by decide) (br_good h)
  ck := ck_other (by intro e; rw [e] at hw; revert hw; decide) (br_ck h)
  ne := by simp
  h15 := by intro e; have e : wd.k = 15 := e; rw [e] at hw; revert hw; decide

theorem two_good {n m : Nat} {a b : List Tk} {o : Tk} (ha : FG n a) (hb : FG m b) (ho : TO (unm o).k o.x) (h1 : o.k ≠ 1) (hl : ldHead o.x = false) : Good (a ++ o :: b) :=
  good_app ha.good (cons_good ho h1 hl hb.good) (fun u r e => by cases e; exact hl)
theorem two_ck {n m : Nat} {a b : List Tk} {o : Tk} (ha : FG n a) (hb : FG m b) (h5 : o.k ≠ 5) (h15 : o.k ≠ 15) : CK (a ++ o :: b) := ck_app ha.ck (ck_other h5 hb.ck) (by simp) h15
theorem two_head {a b : List Tk} {o : Tk} (ha : a ≠ []) (h : kindAt a 0 ≠ 15) : kindAt (a ++ o :: b) 0 ≠ 15 := by
  match a, ha with
  | x :: r, _ => exact h

theorem op_k (n : Nat) : (tOp n).k ∈ [16, 17, 18, 19, 20] ∧ ldHead (tOp n).x = false := by
  unfold tOp
  repeat' split
  all_goals exact ⟨by decide, by decide⟩
theorem cmp_k (n : Nat) : (tCmp n).k ∈ [21, 22] ∧ ldHead (tCmp n).x = false := by
  unfold tCmp
  split
  all_goals exact ⟨by decide, by decide⟩

theorem ranges_ok {wd a b : Tk} (hw : wd.k ∈ [9, 10]) (ht : TO (unm wd).k wd.x) (ta : TO (unm a).k a.x) (tb : TO (unm b).k b.x) (ha : a.k = 5) (hb : b.k = 5) (hbad : badA (cn a.x) (cn b.x) = false) :
    FG 1 [wd, tOpen, a, tColon, b, tClose] where
  is := is_form (is_sum (is_prod (is_range hw rfl rfl ha rfl hb)))
  good := word_good ht (by intro e; rw [e] at hw; revert hw; decide) (by decide) (cons_good to_open (by decide) (by decide)
    (word_good ta (by omega) (by decide) (cons_good to_colon (by decide) (by decide) (word_good tb (by omega) (by decide) (one_good to_close (by intro e; cases e))))))
  ck := ck_other (by intro e; rw [e] at hw; revert hw; decide) (ck_other (by decide) (ck_range ha rfl hbad (ck_other (by decide) ck_nil)))
  ne := by simp
  h15 := by intro e; have e : wd.k = 15 := e; rw [e] at hw; revert hw; decide
theorem fg_ranges (n : Nat) : FG 1 (ranges n) := by
  unfold ranges
  split
  · exact ranges_ok (by decide) to_sum (cells12 0 (by omega)).1 (cells12 8 (by omega)).1 rfl rfl (by decide)
  split
  · exact ranges_ok (by decide) to_count (cells12 0 (by omega)).1 (cells12 5 (by omega)).1 rfl rfl (by decide)
  split
  · exact ranges_ok (by decide) to_sum (cells12 7 (by omega)).1 (cells12 7 (by omega)).1 rfl rfl (by decide)
  · exact ranges_ok (by decide) to_count (cells12 3 (by omega)).1 (cells12 11 (by omega)).1 rfl rfl (by decide)

theorem fg_neg (n : Nat) (h : n < 12) : FG 0 [tNeg, tCell n] where
  is := is_form (is_sum (is_prod (is_neg rfl (show (5 : Int) ∈ [1, 2, 3, 4, 5] by decide))))
  good := cons_good to_neg (by decide) (by decide) (fg_cell n h).good
  ck := ck_other (by decide) (fg_cell n h).ck
  ne := by simp
  h15 := show (23 : Int) ≠ 15 by decide

theorem fg_if {n : Nat} {a b c : List Tk} (ha : FG n a) (hb : FG n b) (hc : FG n c) : FG (n + 1) (tIf :: tOpen :: ((a ++ tComma :: (b ++ tComma :: c)) ++ [tClose])) := by
  have gb : Good (b ++ tComma :: c) := two_good hb hc to_comma (by decide) (by decide)
  have kb : CK (b ++ tComma :: c) := two_ck hb hc (by decide) (by decide)
  have ga : Good (a ++ tComma :: (b ++ tComma :: c)) := good_app ha.good (cons_good to_comma (by decide) (by decide) gb) (fun u r e => by cases e; decide)
  have ka : CK (a ++ tComma :: (b ++ tComma :: c)) := ck_app ha.ck (ck_other (by decide) kb) (by simp) (show (14 : Int) ≠ 15 by decide)
  exact ⟨is_form (is_sum (is_prod (is_if rfl rfl rfl rfl rfl ha.is hb.is hc.is))),
    word_good to_if (by decide) (by decide) (cons_good to_open (by decide) (by decide) (fg_closed ga)),
    ck_other (by decide) (ck_other (by decide) (ck_closed ka)), by simp, show (6 : Int) ≠ 15 by decide⟩

theorem fg_cmp {n j : Nat} {a b : List Tk} (ha : FG n a) (hb : FG n b) (ia : Is 1 n a) (ib : Is 1 n b) : FG n (a ++ tCmp j :: b) where
  is := is_cmp ia ib (cmp_k j).1
  good := two_good ha hb (to_cmp j) (by intro e; have := (cmp_k j).1; rw [e] at this; revert this; decide) (cmp_k j).2
  ck := two_ck ha hb (by intro e; have := (cmp_k j).1; rw [e] at this; revert this; decide) (by intro e; have := (cmp_k j).1; rw [e] at this; revert this; decide)
  ne := by simp
  h15 := two_head ha.ne ha.h15

theorem fg_op {n j : Nat} {a b : List Tk} (ha : FG n a) (hb : FG n b) : FG (n + 1) ((tOpen :: (a ++ [tClose])) ++ tOp j :: (tOpen :: (b ++ [tClose]))) := by
  have hk := (op_k j).1
  refine ⟨?_, two_good (fg_br ha) (fg_br hb) (to_op j) (by intro e; rw [e] at hk; revert hk; decide) (op_k j).2,
    two_ck (fg_br ha) (fg_br hb) (by intro e; rw [e] at hk; revert hk; decide) (by intro e; rw [e] at hk; revert hk; decide), by simp, show (12 : Int) ≠ 15 by decide⟩
  simp only [List.mem_cons, List.not_mem_nil, or_false] at hk
  by_cases h1 : (tOp j).k ∈ [18, 19]
  · exact is_form (is_sum (is_mul (br_is ha) (is_prod (br_is hb)) h1))
  · exact is_form (is_add (is_prod (br_is ha)) (is_sum (is_prod (br_is hb))) (by simp only [List.mem_cons, List.not_mem_nil, or_false] at h1 ⊢; omega))

theorem fg_ats (j q : Nat) (hq : q < 12) : FG 0 (ats j q) := by
  unfold ats
  split
  · have a := fg_text [65] (by decide) (by decide)
    have b := fg_text [49] (by decide) (by decide)
    exact ⟨is_form (is_add (is_prod (is_one (show (2 : Int) ∈ [1, 2, 3, 4, 5] by decide))) (is_sum (is_prod (is_one (show (2 : Int) ∈ [1, 2, 3, 4, 5] by decide)))) (by decide)),
      two_good a b (to_op 4) (by decide) (by decide), two_ck a b (by decide) (by decide), by simp, show (2 : Int) ≠ 15 by decide⟩
  split
  · exact fg_text [66, 50] (by decide) (by decide)
  · exact fg_cell q hq

theorem gen_fg : ∀ (deep : Nat) (fd : List UInt8), FG deep (gen deep fd).1 ∧ Is 1 deep (gen deep fd).1
  | 0, fd => by
    have one : ∀ t : Tk, t.k ∈ [1, 2, 3, 4, 5] → FG 0 [t] → FG 0 [t] ∧ Is 1 0 [t] := fun t hk h => ⟨h, is_sum (is_prod (is_one hk))⟩
    unfold gen
    by_cases h0 : (nx 6 fd).1 = 0
    · rw [if_pos h0]
      have h := dec_ok (nx 200 (nx 6 fd).2).1 (nx_lt 200 (by omega) _)
      exact one _ (show (1 : Int) ∈ [1, 2, 3, 4, 5] by decide) (fg_one (show (1 : Int) ∈ [1, 2, 3, 4, 5] by decide) h.1 (fun _ => h.2) (by intro e; cases e))
    rw [if_neg h0]
    by_cases h1 : (nx 6 fd).1 = 1
    · rw [if_pos h1]
      have h := texts_ok (nx 6 (nx 6 fd).2).1
      exact one _ (show (2 : Int) ∈ [1, 2, 3, 4, 5] by decide) (fg_text _ h.1 h.2)
    rw [if_neg h1]
    by_cases h2 : (nx 6 fd).1 = 2
    · rw [if_pos h2]
      simp only
      split
      · exact one _ (by decide) (fg_one (by decide) to_true (by intro e; cases e) (by intro e; cases e))
      split
      · exact one _ (by decide) (fg_one (by decide) to_false (by intro e; cases e) (by intro e; cases e))
      · exact one _ (by decide) (fg_one (by decide) (to_num 57 [50, 50, 51, 51, 55, 50, 48, 51, 54, 56, 53, 52, 55, 55, 53, 56, 48, 55] (by decide) (by decide) (by decide)) (by intro _; decide) (by intro e; cases e))
    rw [if_neg h2]
    exact one _ (show (5 : Int) ∈ [1, 2, 3, 4, 5] by decide) (fg_cell _ (nx_lt 12 (by omega) _))
  | deep + 1, fd => by
    have ih := gen_fg deep
    have up : ∀ {n : Nat} {g : List Tk}, n ≤ deep + 1 → FG n g → Is 1 n g → FG (deep + 1) g ∧ Is 1 (deep + 1) g := fun hn h1 h2 => ⟨h1.more hn, h2.more hn⟩
    unfold gen
    by_cases h0 : (nx 9 fd).1 = 0
    · rw [if_pos h0]
      simp only
      have a := (ih (nx 9 fd).2).1
      generalize gen deep (nx 9 fd).2 = x at *
      have b := (ih x.2).1
      generalize gen deep x.2 = y at *
      have c := (ih y.2).1
      exact ⟨fg_if a b c, is_sum (is_prod (is_if rfl rfl rfl rfl rfl a.is b.is c.is))⟩
    rw [if_neg h0]
    by_cases h1 : (nx 9 fd).1 = 1
    · rw [if_pos h1]
      simp only
      have a := fg_ats (nx 3 (nx 12 (nx 9 fd).2).2).1 (nx 12 (nx 9 fd).2).1 (nx_lt 12 (by omega) _)
      exact up (n := 1) (by omega) (fg_call (by decide) to_at a) (is_sum (is_prod (is_call (by decide) rfl rfl a.is)))
    rw [if_neg h1]
    by_cases h2 : (nx 9 fd).1 = 2
    · rw [if_pos h2]
      simp only
      have a := (ih (nx 9 fd).2).1
      exact ⟨fg_call (by decide) to_bad a, is_sum (is_prod (is_call (by decide) rfl rfl a.is))⟩
    rw [if_neg h2]
    by_cases h3 : (nx 9 fd).1 = 3
    · rw [if_pos h3]
      simp only
      have a := fg_ranges (nx 4 (nx 9 fd).2).1
      refine up (n := 1) (by omega) a ?_
      unfold ranges
      split
      · exact is_sum (is_prod (is_range (by decide) rfl rfl rfl rfl rfl))
      split
      · exact is_sum (is_prod (is_range (by decide) rfl rfl rfl rfl rfl))
      split
      · exact is_sum (is_prod (is_range (by decide) rfl rfl rfl rfl rfl))
      · exact is_sum (is_prod (is_range (by decide) rfl rfl rfl rfl rfl))
    rw [if_neg h3]
    by_cases h4 : (nx 9 fd).1 = 4
    · rw [if_pos h4]
      simp only
      have a := ih (nx 9 fd).2
      generalize gen deep (nx 9 fd).2 = x at *
      have b := ih (nx 2 x.2).2
      have c := fg_cmp (j := (nx 2 x.2).1) a.1 b.1 a.2 b.2
      exact ⟨fg_br c, is_sum (is_prod (br_is c))⟩
    rw [if_neg h4]
    by_cases h5 : (nx 9 fd).1 = 5
    · rw [if_pos h5]
      simp only
      exact up (n := 0) (by omega) (fg_neg _ (nx_lt 12 (by omega) _)) (is_sum (is_prod (is_neg rfl (show (5 : Int) ∈ [1, 2, 3, 4, 5] by decide))))
    rw [if_neg h5]
    simp only
    have a := (ih (nx 9 fd).2).1
    generalize gen deep (nx 9 fd).2 = x at *
    have b := (ih (nx 5 x.2).2).1
    have hk := (op_k (nx 5 x.2).1).1
    refine ⟨fg_op a b, ?_⟩
    by_cases h1 : (tOp (nx 5 x.2).1).k ∈ [18, 19]
    · exact is_sum (is_mul (br_is a) (is_prod (br_is b)) h1)
    · exact is_add (is_prod (br_is a)) (is_sum (is_prod (br_is b))) (by simp only [List.mem_cons, List.not_mem_nil, or_false] at h1 hk ⊢; omega)
end Go.Proofs.YtiocnfambeochaaGreatDoor

/- Plain mathematics: a text with its blanks struck and others put in has the same tokens. -/
namespace Go.Proofs.YtiocnfambeochaaGreatDoor

def nq (c : Int) : Bool := decide (c ≠ 34)










end Go.Proofs.YtiocnfambeochaaGreatDoor

/- The statement's own small functions: 'Feed.next', 'num', 'name', 'few', 'pick'. -/
namespace Go.Proofs.YtiocnfambeochaaGreatDoor
open Go.RowKit

structure FD (w : World) (B fb : Nat) (fd : List UInt8) : Prop where
  blk : ∃ (raw : ByteArray) (at_ : Nat), w.heap[fb]? = some (.cells #[.string raw, .int .i64 at_] 30 (0, 0)) ∧ at_ ≤ raw.size ∧ raw.size ≤ 9223372036854775806 ∧ raw.data.toList.drop at_ = fd
  low : B ≤ fb
theorem FD.lt {w : World} {B fb : Nat} {fd : List UInt8} (h : FD w B fb fd) : fb < w.heap.size := by
  obtain ⟨_, _, h, _⟩ := h.blk
  exact lt_of_block h
theorem FD.size {w : World} {B fb : Nat} {fd : List UInt8} (h : FD w B fb fd) : B ≤ w.heap.size := Nat.le_of_lt (Nat.lt_of_le_of_lt h.low h.lt)
theorem FD.below {w w' : World} {B fb : Nat} {fd : List UInt8} (h : FD w B fb fd) (hb : Below w.heap.size w w') : FD w' B fb fd := by
  have hl := h.lt
  obtain ⟨raw, at_, h1, h2⟩ := h.blk
  exact ⟨⟨raw, at_, by rw [hb.block fb hl]; exact h1, h2⟩, h.low⟩
theorem FD.of_heap {w w' : World} {B fb : Nat} {fd : List UInt8} (h : FD w B fb fd) (e : w'.heap = w.heap) : FD w' B fb fd := by
  obtain ⟨raw, at_, h1, h2⟩ := h.blk
  exact ⟨⟨raw, at_, by rw [e]; exact h1, h2⟩, h.low⟩

theorem two_setCell {w : World} {b : Nat} {x y u : Value} {t : TypeId} (h : w.heap[b]? = some (.cells #[x, y] t (0, 0))) : (w.setCell ⟨b, 1, none⟩ u).heap[b]? = some (.cells #[x, u] t (0, 0)) := by
  have hlt := lt_of_block h
  have h' : w.heap[b] = .cells #[x, y] t (0, 0) := by simpa [Array.getElem?_eq_getElem hlt] using h
  show (w.heap.modify b _)[b]? = _
  rw [Array.getElem?_eq_getElem (by simpa using hlt), Array.getElem_modify_self, h']
  rfl

theorem gb_refl (w : World) (row : Option Nat) : w.grownBy w row := ⟨rfl, rfl, rfl, Nat.le_refl _, fun _ _ _ => rfl⟩
theorem gb_trans {a b c : World} {row : Option Nat} (h : a.grownBy b row) (k : b.grownBy c row) : a.grownBy c row :=
  ⟨k.os.trans h.os, k.tape.trans h.tape, k.output.trans h.output, Nat.le_trans h.size k.size, fun i hi hr => (k.block i (Nat.lt_of_lt_of_le hi h.size) hr).trans (h.block i hi hr)⟩
theorem gb_below {a b : World} {row : Option Nat} (h : Below a.heap.size a b) : a.grownBy b row := ⟨h.os, h.tape, h.output, h.size, fun k hk _ => h.block k hk⟩
theorem below_gb {B fb : Nat} {a w w' : World} (h : Below B a w) (hg : w.grownBy w' (some fb)) (hB : B ≤ w.heap.size) (hf : B ≤ fb) : Below B a w' := h.grown hg hB fun k hk => by cases hk; exact hf
theorem gb_drewN (w : World) (n : Nat) (row : Option Nat) : w.grownBy (w.drewN n) row := ⟨rfl, rfl, rfl, Nat.le_refl _, fun _ _ _ => rfl⟩
theorem gb_setCell (w : World) (b o : Nat) (u : Value) : w.grownBy (w.setCell ⟨b, o, none⟩ u) (some b) :=
  ⟨rfl, rfl, rfl, by simp [World.setCell], fun k _ hk => Below.heap_setCell w ⟨b, o, none⟩ u k (fun e => hk (by rw [e]))⟩

set_option maxHeartbeats 1000000 in
theorem next_any (n : Nat) (hn0 : 0 < n) (hn : n ≤ 1000) (w : World) (B fb : Nat) (fd : List UInt8) (h : Hid (FD w B fb fd)) :
    Calls Tryz.prog 17 #[.pointer (some ⟨fb, 0, none⟩), .int .i64 n] w fun e w' => e = .returned (.int .i64 (nx n fd).1) ∧ w.grownBy w' (some fb) ∧ FD w' B fb (nx n fd).2 := by
  obtain ⟨raw, at_, hbk, hat, hraw, hfd⟩ := h.out.blk
  have c0 : w.cell? ⟨fb, 0, none⟩ = some (.string raw) := by simp [World.cell?, hbk]
  have c1 : w.cell? ⟨fb, 1, none⟩ = some (.int .i64 at_) := by simp [World.cell?, hbk]
  have f1 : w.frozen? ⟨fb, 1, none⟩ = false := by simp [World.frozen?, hbk]
  have HBK : Hid _ := hbk
  have HFD : Hid _ := hfd
  clear hbk hfd
  by_cases hlt : at_ < raw.size
  · have hlti : ¬ (raw.size : Int) ≤ (at_ : Int) := by omega
    have hlt2 : (at_ : Int) < (raw.size : Int) := by omega
    have HN : Hid (nx n fd = (raw[at_].toNat % n, raw.data.toList.drop (at_ + 1))) := by
      unfold Hid; rw [← HFD.out, drop_at raw at_ hlt]; rfl
    go_enter Tryz.func17, Tryz.ntmps17
    go_wp2
    go_quiet (fail)
    go_wp2
    go_quiet (fail)
    generalize hc : wrap64 (raw[at_].toNat : Int) = cc
    have HC : Hid (cc = (raw[at_].toNat : Int)) := by
      unfold Hid; rw [← hc]; have := raw[at_].toNat_lt; unfold wrap64; omega
    have hcc0 : 0 ≤ cc := by have := HC.out; omega
    have hcc1 : cc ≤ 255 := by have := HC.out; have := raw[at_].toNat_lt; omega
    clear hc
    go_wp2
    go_ret
    rw [HN.out]
    refine ⟨ret_int ?_, ?_, ?_⟩
    · have h1 := HC.out
      rw [h1]
      simp
    · exact gb_trans (gb_drewN w _ _) (gb_setCell _ fb 1 _)
    · refine ⟨⟨raw, at_ + 1, ?_, by omega, hraw, rfl⟩, h.out.low⟩
      exact two_setCell (w := w.drewN _) HBK.out
  · have hlti : (raw.size : Int) ≤ (at_ : Int) := by omega
    have HN : Hid (nx n fd = (0, [])) := by
      unfold Hid
      rw [← HFD.out, List.drop_of_length_le (by rw [len_eq]; omega)]
      rfl
    go_enter Tryz.func17, Tryz.ntmps17
    go_wp2
    go_quiet (fail)
    go_wp2
    go_ret
    rw [HN.out]
    refine ⟨rfl, gb_drewN w _ _, ?_⟩
    exact ⟨⟨raw, at_, HBK.out, hat, hraw, by rw [List.drop_of_length_le (by rw [len_eq]; omega)]⟩, h.out.low⟩

def nmT (n : Nat) : List UInt8 := [UInt8.ofNat (65 + n % 6), UInt8.ofNat (49 + n / 6)]
theorem nm_run (n : Nat) (hn : n < 48) (w : World) :
    (convert 118 9 (.slice (some ⟨w.heap.size, 0, none⟩) 2 2)).run Tryz.prog (w.alloc (.cells #[.int .u8 (65 + (n : Int) % 6), .int .u8 (49 + (n : Int) / 6)] 5)) = .ok (.string ⟨(nmT n).toArray⟩) (w.alloc (.cells #[.int .u8 (65 + (n : Int) % 6), .int .u8 (49 + (n : Int) / 6)] 5)) := by
  refine run_convert_bytes_back (P := Tryz.prog) (w.alloc (.cells #[.int .u8 (65 + (n : Int) % 6), .int .u8 (49 + (n : Int) / 6)] 5)) 118 9 5 ⟨w.heap.size, 0, none⟩ 2 (nmT n) Tryz.underlying118 Tryz.underlying5 Tryz.underlying9 fun j hj => ?_
  have h0 : (UInt8.ofNat (65 + n % 6)).toNat = 65 + n % 6 := by rw [UInt8.toNat_ofNat']; omega
  have h1 : (UInt8.ofNat (49 + n / 6)).toNat = 49 + n / 6 := by rw [UInt8.toNat_ofNat']; omega
  match j, hj with
  | 0, _ =>
    show _ = some (Value.int .u8 ((UInt8.ofNat (65 + n % 6)).toNat : Int))
    rw [h0]
    simp [Addr.add]
  | 1, _ =>
    show _ = some (Value.int .u8 ((UInt8.ofNat (49 + n / 6)).toNat : Int))
    rw [h1]
    simp [Addr.add]
set_option maxHeartbeats 1000000 in
set_option maxRecDepth 100000 in
theorem name_any (n : Nat) (hn : n < 48) (w : World) : Calls Tryz.prog 24 #[.int .i64 n] w fun e w' => e = .returned (.string ⟨(nmT n).toArray⟩) ∧ Below w.heap.size w w' := by
  have hr := nm_run n hn w
  go_enter Tryz.func24, Tryz.ntmps24
  go_wp2_with fail
  go_ret
  exact ⟨rfl, (Below.refl _ _).alloc (Nat.le_refl _) _⟩

set_option maxHeartbeats 1000000 in
theorem few_any (w : World) (B fb : Nat) (fd : List UInt8) (h : Hid (FD w B fb fd)) :
    Calls Tryz.prog 40 #[.pointer (some ⟨fb, 0, none⟩)] w fun e w' => e = .returned (.string ⟨(nmT (nx 12 fd).1).toArray⟩) ∧ w.grownBy w' (some fb) ∧ FD w' B fb (nx 12 fd).2 := by
  have hl : Hid _ := nx_lt 12 (by omega) fd
  go_enter Tryz.func40, Tryz.ntmps40
  go_wp2_with fail
  refine (next_any 12 (by omega) (by omega) _ B fb fd h).mono ?_
  rintro e w1 ⟨rfl, hb1, hf1⟩
  have HB : Hid _ := hb1
  have HF : Hid _ := hf1
  clear hb1 hf1
  go_wp2_with fail
  refine (name_any _ (by have := hl.out; omega) _).mono ?_
  rintro e w2 ⟨rfl, hb2⟩
  go_wp2_with fail
  go_ret
  exact ⟨rfl, gb_trans HB.out (gb_below hb2), HF.out.below hb2⟩

theorem below_grow (B : Nat) (w : World) (hB : B ≤ w.heap.size) (k : Nat) (os : Array Obj) : Below B w (Go.Sort.grow (w.drewN k) os) :=
  Lib.below_grow B w hB k os
def Amb (w : World) : Prop := ErrVar w ∧ Lib.TabIs Tryz.prog w "internal/strconv.uint64pow10" .u64 Lib.pow10Tab ∧ SynVar w
theorem num_any (n : Nat) (hn : n < 1000) (w : World) (hA : Amb w) : Calls Tryz.prog 23 #[.int .i64 n] w fun e w' => e = .returned (.string ⟨(Lib.decDigits n).toArray⟩) ∧ Below w.heap.size w w' := by
  have hA2 : Hid _ := hA
  go_enter Tryz.func23, Tryz.ntmps23
  go_wp2_with fail
  refine (Tryz.strconv_Itoa n (by omega) (by omega) _ hA2.out.2.1).mono ?_
  rintro e w1 ⟨rfl, k, os, rfl⟩
  go_wp2_with fail
  go_ret
  have e : Lib.itoa (n : Int) = Lib.decDigits n := by unfold Lib.itoa; rw [if_neg (by omega)]; simp
  rw [e]
  exact ⟨rfl, below_grow _ w (Nat.le_refl _) k os⟩

theorem var_keeps {w w' : World} {n : String} {cs : Array Value} (hv : w.var? Tryz.prog n = some cs) (hb : Below w.heap.size w w') : w'.var? Tryz.prog n = some cs := by
  cases hg : Tryz.prog.globalNamed n with
  | none => unfold World.var? at hv; rw [hg] at hv; simp at hv
  | some g =>
    have hlt : g < w.heap.size := by
      unfold World.var? at hv
      simp only [hg, Option.bind_some] at hv
      by_cases h1 : g < w.heap.size
      · exact h1
      · rw [Array.getElem?_eq_none (by omega)] at hv
        simp at hv
    exact var?_below hb hg hlt hv
theorem Amb.below {w w' : World} (h : Amb w) (hb : Below w.heap.size w w') : Amb w' := by
  obtain ⟨h1, h2, tp, p, h3⟩ := h
  exact ⟨h1.below hb, var_keeps h2 hb, tp, p, var_keeps h3 hb⟩
end Go.Proofs.YtiocnfambeochaaGreatDoor
