/- Texts put together. -/
import Derived.Test.YtiocnfambeochaaGreatDoorQ14
import Derived.Lib.ItoaNum
import Derived.Test.YtiocnfambeochaaGreatDoorQ11
import Derived.Lib.AppendIntMem
import Derived.Test.YtiocnfambeochaaGreatDoorQ13
import Derived.Test.YtiocnfambeochaaGreatDoorQ08
import Derived.Test.YtiocnfambeochaaGreatDoorQ10
/- Plain mathematics: formulas written out of raw bytes (the statement's own making), token by token; each is a formula whose cells there are. -/
namespace Go.Proofs.YtiocnfambeochaaGreatDoor

theorem chk_fuel : ∀ (n m : Nat) (l : List Tk), l.length ≤ n → l.length ≤ m → chk n l = chk m l
  | 0, 0, _, _, _ => rfl
  | 0, m + 1, l, h, _ => by
    have : l = [] := List.length_eq_zero_iff.1 (by omega)
    rw [this]; rfl
  | n + 1, 0, l, _, h => by
    have : l = [] := List.length_eq_zero_iff.1 (by omega)
    rw [this]; rfl
  | n + 1, m + 1, [], _, _ => rfl
  | n + 1, m + 1, t :: r, h1, h2 => by
    simp only [List.length_cons] at h1 h2
    unfold chk
    rw [chk_fuel n m r (by omega) (by omega), chk_fuel n m (r.drop 2) (by simp only [List.length_drop]; omega) (by simp only [List.length_drop]; omega)]

def CK (g : List Tk) : Prop := ∀ (post : List Tk) (n : Nat), kindAt post 0 ≠ 15 → (g ++ post).length ≤ n → chk n (g ++ post) = chk n post
theorem ck_nil : CK [] := fun _ _ _ _ => rfl
theorem ck_other {t : Tk} {g : List Tk} (h : t.k ≠ 5) (hg : CK g) : CK (t :: g) := by
  intro post n hp hn
  simp only [List.cons_append, List.length_cons, List.length_append] at hn
  obtain ⟨m, rfl⟩ : ∃ m, n = m + 1 := ⟨n - 1, by omega⟩
  have e : chk (m + 1) (t :: g ++ post) = chk m (g ++ post) := by rw [List.cons_append, chk, if_pos h]
  rw [e, hg post m hp (by rw [List.length_append]; omega)]
  exact chk_fuel _ _ _ (by omega) (by omega)
theorem ck_cell {t : Tk} {g : List Tk} (h : t.k = 5) (hc : (cn t.x).2 = true) (h15 : kindAt g 0 ≠ 15) (hg : CK g) : CK (t :: g) := by
  intro post n hp hn
  simp only [List.cons_append, List.length_cons, List.length_append] at hn
  obtain ⟨m, rfl⟩ : ∃ m, n = m + 1 := ⟨n - 1, by omega⟩
  have hk : kindAt (t :: (g ++ post)) 1 ≠ 15 := by
    show kindAt (g ++ post) 0 ≠ 15
    cases g with
    | nil => exact hp
    | cons a r => exact h15
  have hr : isR (t :: (g ++ post)) = false := by unfold isR; rw [decide_eq_false hk]; simp
  have e : chk (m + 1) (t :: g ++ post) = chk m (g ++ post) := by rw [List.cons_append, chk, if_neg (by simp [h]), hr, if_neg (by simp), if_pos hc]
  rw [e, hg post m hp (by rw [List.length_append]; omega)]
  exact chk_fuel _ _ _ (by omega) (by omega)
theorem ck_range {a m b : Tk} {g : List Tk} (ha : a.k = 5) (hm : m.k = 15) (hb : badA (cn a.x) (cn b.x) = false) (hg : CK g) : CK (a :: m :: b :: g) := by
  intro post n hp hn
  simp only [List.cons_append, List.length_cons, List.length_append] at hn
  obtain ⟨n, rfl⟩ : ∃ m, n = m + 1 := ⟨n - 1, by omega⟩
  have hr : isR (a :: m :: b :: (g ++ post)) = true := by
    unfold isR
    rw [decide_eq_true (show kindAt (a :: m :: b :: (g ++ post)) 1 = 15 from hm), decide_eq_true (by simp only [List.length_cons]; omega)]
    rfl
  have e : chk (n + 1) (a :: m :: b :: g ++ post) = chk n (g ++ post) := by
    have e0 : a :: m :: b :: g ++ post = a :: m :: b :: (g ++ post) := rfl
    rw [e0, chk, if_neg (by simp [ha]), hr, if_pos rfl]
    have e1 : txtAt (a :: m :: b :: (g ++ post)) 2 = b.x := rfl
    rw [e1, hb, if_neg (by simp)]
    rfl
  rw [e, hg post n hp (by rw [List.length_append]; omega)]
  exact chk_fuel _ _ _ (by omega) (by omega)
theorem ck_app {a b : List Tk} (ha : CK a) (hb : CK b) (hne : b ≠ []) (h15 : kindAt b 0 ≠ 15) : CK (a ++ b) := by
  intro post n hp hn
  have e : (a ++ b) ++ post = a ++ (b ++ post) := by simp
  rw [e] at hn ⊢
  rw [ha (b ++ post) n (by cases b with | nil => exact absurd rfl hne | cons x r => exact h15) hn]
  exact hb post n hp (by rw [List.length_append] at hn; omega)
theorem ck_end {g : List Tk} (h : CK g) : chk g.length g = none := by
  have := h [] g.length (by simp [kindAt]) (by simp)
  rw [List.append_nil] at this
  rw [this]
  cases g.length <;> rfl

theorem good_app {a b : List Tk} (ha : Good a) (hb : Good b) (hne : ∀ u r, b = u :: r → ldHead u.x = false) : Good (a ++ b) := by
  induction a with
  | nil => exact hb
  | cons t r ih =>
    obtain ⟨h1, h2, h3, h4⟩ := ha
    refine ⟨h1, h2, fun hl => ?_, ih h4⟩
    cases r with
    | nil =>
      cases b with
      | nil => trivial
      | cons u q => exact hne u q rfl
    | cons v q => exact h3 hl

structure FG (n : Nat) (g : List Tk) : Prop where
  is : Is 0 n g
  good : Good g
  ck : CK g
  ne : g ≠ []
  h15 : kindAt g 0 ≠ 15
theorem FG.more {n m : Nat} {g : List Tk} (h : FG n g) (hm : n ≤ m) : FG m g := ⟨h.is.more hm, h.good, h.ck, h.ne, h.h15⟩

/- Tokens by name. -/
def tk (k : Int) (x : List UInt8) : Tk := ⟨k, x, 0⟩
def tOpen : Tk := tk 12 [40]
def tClose : Tk := tk 13 [41]
def tComma : Tk := tk 14 [44]
def tColon : Tk := tk 15 [58]
def tNeg : Tk := tk 23 [45]
def tIf : Tk := tk 6 [105, 102]
def tAt : Tk := tk 7 [97, 116]
def tBad : Tk := tk 8 [98, 97, 100]
def tSum : Tk := tk 9 [115, 117, 109]
def tCount : Tk := tk 10 [99, 111, 117, 110, 116]
def tTrue : Tk := tk 3 [116, 114, 117, 101]
def tFalse : Tk := tk 4 [102, 97, 108, 115, 101]
def tText (r : List UInt8) : Tk := tk 2 (34 :: (r ++ [34]))
def tCell (n : Nat) : Tk := tk 5 [UInt8.ofNat (65 + n % 6), UInt8.ofNat (49 + n / 6)]
def tNum (x : List UInt8) : Tk := tk 1 x
def tOp (n : Nat) : Tk := if n = 0 then tk 16 [43] else if n = 1 then tk 17 [45] else if n = 2 then tk 18 [42] else if n = 3 then tk 19 [47] else tk 20 [38]
def tCmp (n : Nat) : Tk := if n = 0 then tk 22 [60] else tk 21 [61]

def nx (n : Nat) : List UInt8 → Nat × List UInt8
  | [] => (0, [])
  | c :: r => (c.toNat % n, r)

def texts (n : Nat) : List UInt8 := if n = 0 then [] else if n = 1 then [120] else if n = 2 then [65, 49] else if n = 3 then [66, 50] else if n = 4 then [67] else [90, 57]
def ranges (n : Nat) : List Tk :=
  if n = 0 then [tSum, tOpen, tCell 0, tColon, tCell 8, tClose] else if n = 1 then [tCount, tOpen, tCell 0, tColon, tCell 5, tClose]
  else if n = 2 then [tSum, tOpen, tCell 7, tColon, tCell 7, tClose] else [tCount, tOpen, tCell 3, tColon, tCell 11, tClose]

def ats (j q : Nat) : List Tk := if j = 0 then [tText [65], tOp 4, tText [49]] else if j = 1 then [tText [66, 50]] else [tCell q]

def gen : Nat → List UInt8 → List Tk × List UInt8
  | 0, fd =>
    if (nx 6 fd).1 = 0 then ([tNum (Lib.decDigits (nx 200 (nx 6 fd).2).1)], (nx 200 (nx 6 fd).2).2)
    else if (nx 6 fd).1 = 1 then ([tText (texts (nx 6 (nx 6 fd).2).1)], (nx 6 (nx 6 fd).2).2)
    else if (nx 6 fd).1 = 2 then
      ([if (nx 3 (nx 6 fd).2).1 = 0 then tTrue else if (nx 3 (nx 6 fd).2).1 = 1 then tFalse else tNum [57, 50, 50, 51, 51, 55, 50, 48, 51, 54, 56, 53, 52, 55, 55, 53, 56, 48, 55]], (nx 3 (nx 6 fd).2).2)
    else ([tCell (nx 12 (nx 6 fd).2).1], (nx 12 (nx 6 fd).2).2)
  | deep + 1, fd =>
    if (nx 9 fd).1 = 0 then
      let a := gen deep (nx 9 fd).2
      let b := gen deep a.2
      let c := gen deep b.2
      (tIf :: tOpen :: ((a.1 ++ tComma :: (b.1 ++ tComma :: c.1)) ++ [tClose]), c.2)
    else if (nx 9 fd).1 = 1 then
      let q := nx 12 (nx 9 fd).2
      let j := nx 3 q.2
      (tAt :: tOpen :: (ats j.1 q.1 ++ [tClose]), j.2)
    else if (nx 9 fd).1 = 2 then
      let a := gen deep (nx 9 fd).2
      (tBad :: tOpen :: (a.1 ++ [tClose]), a.2)
    else if (nx 9 fd).1 = 3 then (ranges (nx 4 (nx 9 fd).2).1, (nx 4 (nx 9 fd).2).2)
    else if (nx 9 fd).1 = 4 then
      let a := gen deep (nx 9 fd).2
      let j := nx 2 a.2
      let b := gen deep j.2
      (tOpen :: ((a.1 ++ tCmp j.1 :: b.1) ++ [tClose]), b.2)
    else if (nx 9 fd).1 = 5 then
      let q := nx 12 (nx 9 fd).2
      ([tNeg, tCell q.1], q.2)
    else
      let a := gen deep (nx 9 fd).2
      let j := nx 5 a.2
      let b := gen deep j.2
      ((tOpen :: (a.1 ++ [tClose])) ++ tOp j.1 :: (tOpen :: (b.1 ++ [tClose])), b.2)

/- The tokens by name are tokens. -/
theorem one_good {t : Tk} (h : TO (unm t).k t.x) (hn : t.k = 1 → nzT t.x = t.x) : Good [t] := ⟨h, hn, fun _ => trivial, trivial⟩
theorem cons_good {t : Tk} {r : List Tk} (h : TO (unm t).k t.x) (hk : t.k ≠ 1) (hs : ldHead t.x = false) (hr : Good r) : Good (t :: r) :=
  ⟨h, fun e => absurd e hk, fun e => absurd (hs.symm.trans e) (by simp), hr⟩
theorem word_good {t u : Tk} {r : List Tk} (h : TO (unm t).k t.x) (hk : t.k ≠ 1) (hs : ldHead u.x = false) (hr : Good (u :: r)) : Good (t :: u :: r) :=
  ⟨h, fun e => absurd e hk, fun _ => hs, hr⟩

theorem to_open : TO (unm tOpen).k tOpen.x := to_sign 40 (by decide) (by decide) (by decide) (by decide) (by decide)
theorem to_close : TO (unm tClose).k tClose.x := to_sign 41 (by decide) (by decide) (by decide) (by decide) (by decide)
theorem to_comma : TO (unm tComma).k tComma.x := to_sign 44 (by decide) (by decide) (by decide) (by decide) (by decide)
theorem to_colon : TO (unm tColon).k tColon.x := to_sign 58 (by decide) (by decide) (by decide) (by decide) (by decide)
theorem to_neg : TO (unm tNeg).k tNeg.x := to_sign 45 (by decide) (by decide) (by decide) (by decide) (by decide)
theorem to_op (n : Nat) : TO (unm (tOp n)).k (tOp n).x := by
  unfold tOp
  split
  · exact to_sign 43 (by decide) (by decide) (by decide) (by decide) (by decide)
  split
  · exact to_sign 45 (by decide) (by decide) (by decide) (by decide) (by decide)
  split
  · exact to_sign 42 (by decide) (by decide) (by decide) (by decide) (by decide)
  split
  · exact to_sign 47 (by decide) (by decide) (by decide) (by decide) (by decide)
  · exact to_sign 38 (by decide) (by decide) (by decide) (by decide) (by decide)
theorem to_cmp (n : Nat) : TO (unm (tCmp n)).k (tCmp n).x := by
  unfold tCmp
  split
  · exact to_sign 60 (by decide) (by decide) (by decide) (by decide) (by decide)
  · exact to_sign 61 (by decide) (by decide) (by decide) (by decide) (by decide)
theorem to_if : TO (unm tIf).k tIf.x := to_word 105 [102] (by decide) (by decide) (by decide) (by decide)
theorem to_at : TO (unm tAt).k tAt.x := to_word 97 [116] (by decide) (by decide) (by decide) (by decide)
theorem to_bad : TO (unm tBad).k tBad.x := to_word 98 [97, 100] (by decide) (by decide) (by decide) (by decide)
theorem to_sum : TO (unm tSum).k tSum.x := to_word 115 [117, 109] (by decide) (by decide) (by decide) (by decide)
theorem to_count : TO (unm tCount).k tCount.x := to_word 99 [111, 117, 110, 116] (by decide) (by decide) (by decide) (by decide)
theorem to_txt (r : List UInt8) (hr : ∀ a ∈ r, pbB (a.toNat : Int) = true) (h : r.length ≤ 20) : TO (unm (tText r)).k (tText r).x := to_text r hr h
theorem cells12 : ∀ n : Nat, n < 12 → TO (unm (tCell n)).k (tCell n).x ∧ (cn (tCell n).x).2 = true ∧ ldHead (tCell n).x = true
  | 0, _ => ⟨to_word 65 [49] (by decide) (by decide) (by decide) (by decide), by decide, by decide⟩
  | 1, _ => ⟨to_word 66 [49] (by decide) (by decide) (by decide) (by decide), by decide, by decide⟩
  | 2, _ => ⟨to_word 67 [49] (by decide) (by decide) (by decide) (by decide), by decide, by decide⟩
  | 3, _ => ⟨to_word 68 [49] (by decide) (by decide) (by decide) (by decide), by decide, by decide⟩
  | 4, _ => ⟨to_word 69 [49] (by decide) (by decide) (by decide) (by decide), by decide, by decide⟩
  | 5, _ => ⟨to_word 70 [49] (by decide) (by decide) (by decide) (by decide), by decide, by decide⟩
  | 6, _ => ⟨to_word 65 [50] (by decide) (by decide) (by decide) (by decide), by decide, by decide⟩
  | 7, _ => ⟨to_word 66 [50] (by decide) (by decide) (by decide) (by decide), by decide, by decide⟩
  | 8, _ => ⟨to_word 67 [50] (by decide) (by decide) (by decide) (by decide), by decide, by decide⟩
  | 9, _ => ⟨to_word 68 [50] (by decide) (by decide) (by decide) (by decide), by decide, by decide⟩
  | 10, _ => ⟨to_word 69 [50] (by decide) (by decide) (by decide) (by decide), by decide, by decide⟩
  | 11, _ => ⟨to_word 70 [50] (by decide) (by decide) (by decide) (by decide), by decide, by decide⟩
  | n + 12, h => by omega
theorem nx_lt (n : Nat) (hn : 0 < n) (fd : List UInt8) : (nx n fd).1 < n := by
  cases fd with
  | nil => exact hn
  | cons c r => exact Nat.mod_lt _ hn

theorem ofNat_digit (q : Nat) (h : q < 10) : (UInt8.ofNat (48 + q)).toNat = 48 + q := by
  rw [UInt8.toNat_ofNat']; omega
theorem dg_digit (q : Nat) (h : q < 10) : dgB ((UInt8.ofNat (48 + q)).toNat : Int) = true := by
  rw [ofNat_digit q h]; unfold dgB; simp; omega
theorem ne48 (q : Nat) (h : q < 10) (h0 : q ≠ 0) : (UInt8.ofNat (48 + q) == 48) = false := by
  rw [beq_eq_false_iff_ne]
  intro e
  have := congrArg UInt8.toNat e
  rw [ofNat_digit q h] at this
  have h48 : (48 : UInt8).toNat = 48 := rfl
  omega

theorem fg_one {t : Tk} (hk : t.k ∈ [1, 2, 3, 4, 5]) (h : TO (unm t).k t.x) (hn : t.k = 1 → nzT t.x = t.x) (hc : t.k = 5 → (cn t.x).2 = true) : FG 0 [t] where
  is := is_form (is_sum (is_prod (is_one hk)))
  good := one_good h hn
  ck := by
    by_cases h5 : t.k = 5
    · exact ck_cell h5 (hc h5) (by simp [kindAt]) ck_nil
    · exact ck_other h5 ck_nil
  ne := by simp
  h15 := by intro e; have e : t.k = 15 := e; rw [e] at hk; revert hk; decide
theorem fg_text (r : List UInt8) (hr : ∀ a ∈ r, pbB (a.toNat : Int) = true) (h : r.length ≤ 20) : FG 0 [tText r] := fg_one (show (2 : Int) ∈ [1, 2, 3, 4, 5] by decide) (to_txt r hr h) (by intro e; cases e) (by intro e; cases e)

theorem fg_closed {g : List Tk} (hg : Good g) : Good (g ++ [tClose]) := good_app hg (one_good to_close (by intro e; cases e)) (fun u r e => by cases e; decide)
theorem ck_closed {g : List Tk} (hg : CK g) : CK (g ++ [tClose]) := ck_app hg (ck_other (by decide) ck_nil) (by simp) (by decide)

theorem br_is {n : Nat} {g : List Tk} (h : FG n g) : Is 3 (n + 1) (tOpen :: (g ++ [tClose])) := is_bracket rfl rfl h.is
theorem br_good {n : Nat} {g : List Tk} (h : FG n g) : Good (tOpen :: (g ++ [tClose])) := cons_good to_open (by decide) (by decide) (fg_closed h.good)
theorem br_ck {n : Nat} {g : List Tk} (h : FG n g) : CK (tOpen :: (g ++ [tClose])) := ck_other (by decide) (ck_closed h.ck)

theorem fg_call {n : Nat} {g : List Tk} {wd : Tk} (hw : wd.k ∈ [7, 8]) (ht : TO (unm wd).k wd.x) (h : FG n g) : FG (n + 1) (wd :: tOpen :: (g ++ [tClose])) where
  is := is_form (is_sum (is_prod (is_call hw rfl rfl h.is)))
  good := word_good ht (by intro e; rw [e] at hw; revert hw; decide) (by decide) (br_good h)
  ck := ck_other (by intro e; rw [e] at hw; revert hw; decide) (br_ck h)
  ne := by simp
  h15 := by intro e; have e : wd.k = 15 := e; rw [e] at hw; revert hw; decide

theorem two_good {n m : Nat} {a b : List Tk} {o : Tk} (ha : FG n a) (hb : FG m b) (ho : TO (unm o).k o.x) (h1 : o.k ≠ 1) (hl : ldHead o.x = false) : Good (a ++ o :: b) :=
  good_app ha.good (cons_good ho h1 hl hb.good) (fun u r e => by cases e; exact hl)
theorem two_ck {n m : Nat} {a b : List Tk} {o : Tk} (ha : FG n a) (hb : FG m b) (h5 : o.k ≠ 5) (h15 : o.k ≠ 15) : CK (a ++ o :: b) := ck_app ha.ck (ck_other h5 hb.ck) (by simp) h15
theorem two_head {a b : List Tk} {o : Tk} (ha : a ≠ []) (h : kindAt a 0 ≠ 15) : kindAt (a ++ o :: b) 0 ≠ 15 := by
  match a, ha with
  | x :: r, _ => exact h

theorem op_k (n : Nat) : (tOp n).k ∈ [16, 17, 18, 19, 20] ∧ ldHead (tOp n).x = false := by
  unfold tOp
  repeat' split
  all_goals exact ⟨by decide, by decide⟩
theorem cmp_k (n : Nat) : (tCmp n).k ∈ [21, 22] ∧ ldHead (tCmp n).x = false := by
  unfold tCmp
  split
  all_goals exact ⟨by decide, by decide⟩

theorem ranges_ok {wd a b : Tk} (hw : wd.k ∈ [9, 10]) (ht : TO (unm wd).k wd.x) (ta : TO (unm a).k a.x) (tb : TO (unm b).k b.x) (ha : a.k = 5) (hb : b.k = 5) (hbad : badA (cn a.x) (cn b.x) = false) :
    FG 1 [wd, tOpen, a, tColon, b, tClose] where
  is := is_form (is_sum (is_prod (is_range hw rfl rfl ha rfl hb)))
  good := word_good ht (by intro e; rw [e] at hw; revert hw; decide) (by decide) (cons_good to_open (by decide) (by decide)
    (word_good ta (by omega) (by decide) (cons_good to_colon (by decide) (by decide) (word_good tb (by omega) (by decide) (one_good to_close (by intro e; cases e))))))
  ck := ck_other (by intro e; rw [e] at hw; revert hw; decide) (ck_other (by decide) (ck_range ha rfl hbad (ck_other (by decide) ck_nil)))
  ne := by simp
  h15 := by intro e; have e : wd.k = 15 := e; rw [e] at hw; revert hw; decide


theorem fg_if {n : Nat} {a b c : List Tk} (ha : FG n a) (hb : FG n b) (hc : FG n c) : FG (n + 1) (tIf :: tOpen :: ((a ++ tComma :: (b ++ tComma :: c)) ++ [tClose])) := by
  have gb : Good (b ++ tComma :: c) := two_good hb hc to_comma (by decide) (by decide)
  have kb : CK (b ++ tComma :: c) := two_ck hb hc (by decide) (by decide)
  have ga : Good (a ++ tComma :: (b ++ tComma :: c)) := good_app ha.good (cons_good to_comma (by decide) (by decide) gb) (fun u r e => by cases e; decide)
  have ka : CK (a ++ tComma :: (b ++ tComma :: c)) := ck_app ha.ck (ck_other (by decide) kb) (by simp) (show (14 : Int) ≠ 15 by decide)
  exact ⟨is_form (is_sum (is_prod (is_if rfl rfl rfl rfl rfl ha.is hb.is hc.is))),
    word_good to_if (by decide) (by decide) (cons_good to_open (by decide) (by decide) (fg_closed ga)),
    ck_other (by decide) (ck_other (by decide) (ck_closed ka)), by simp, show (6 : Int) ≠ 15 by decide⟩

theorem fg_cmp {n j : Nat} {a b : List Tk} (ha : FG n a) (hb : FG n b) (ia : Is 1 n a) (ib : Is 1 n b) : FG n (a ++ tCmp j :: b) where
  is := is_cmp ia ib (cmp_k j).1
  good := two_good ha hb (to_cmp j) (by intro e; have := (cmp_k j).1; rw [e] at this; revert this; decide) (cmp_k j).2
  ck := two_ck ha hb (by intro e; have := (cmp_k j).1; rw [e] at this; revert this; decide) (by intro e; have := (cmp_k j).1; rw [e] at this; revert this; decide)
  ne := by simp
  h15 := two_head ha.ne ha.h15



end Go.Proofs.YtiocnfambeochaaGreatDoor

/- Plain mathematics: a text with its blanks struck and others put in has the same tokens. -/
namespace Go.Proofs.YtiocnfambeochaaGreatDoor

def nq (c : Int) : Bool := decide (c ≠ 34)










end Go.Proofs.YtiocnfambeochaaGreatDoor

/- The statement's own small functions: 'Feed.next', 'num', 'name', 'few', 'pick'. -/
namespace Go.Proofs.YtiocnfambeochaaGreatDoor
open Go.RowKit

structure FD (w : World) (B fb : Nat) (fd : List UInt8) : Prop where
  blk : ∃ (raw : ByteArray) (at_ : Nat), w.heap[fb]? = some (.cells #[.string raw, .int .i64 at_] 30 (0, 0)) ∧ at_ ≤ raw.size ∧ raw.size ≤ 9223372036854775806 ∧ raw.data.toList.drop at_ = fd
  low : B ≤ fb
theorem FD.lt {w : World} {B fb : Nat} {fd : List UInt8} (h : FD w B fb fd) : fb < w.heap.size := by
  obtain ⟨_, _, h, _⟩ := h.blk
  exact lt_of_block h
theorem FD.size {w : World} {B fb : Nat} {fd : List UInt8} (h : FD w B fb fd) : B ≤ w.heap.size := Nat.le_of_lt (Nat.lt_of_le_of_lt h.low h.lt)
theorem FD.below {w w' : World} {B fb : Nat} {fd : List UInt8} (h : FD w B fb fd) (hb : Below w.heap.size w w') : FD w' B fb fd := by
  have hl := h.lt
  obtain ⟨raw, at_, h1, h2⟩ := h.blk
  exact ⟨⟨raw, at_, by rw [hb.block fb hl]; exact h1, h2⟩, h.low⟩
theorem FD.of_heap {w w' : World} {B fb : Nat} {fd : List UInt8} (h : FD w B fb fd) (e : w'.heap = w.heap) : FD w' B fb fd := by
  obtain ⟨raw, at_, h1, h2⟩ := h.blk
  exact ⟨⟨raw, at_, by rw [e]; exact h1, h2⟩, h.low⟩

theorem two_setCell {w : World} {b : Nat} {x y u : Value} {t : TypeId} (h : w.heap[b]? = some (.cells #[x, y] t (0, 0))) : (w.setCell ⟨b, 1, none⟩ u).heap[b]? = some (.cells #[x, u] t (0, 0)) := by
  have hlt := lt_of_block h
  have h' : w.heap[b] = .cells #[x, y] t (0, 0) := by simpa [Array.getElem?_eq_getElem hlt] using h
  show (w.heap.modify b _)[b]? = _
  rw [Array.getElem?_eq_getElem (by simpa using hlt), Array.getElem_modify_self, h']
  rfl

theorem gb_refl (w : World) (row : Option Nat) : w.grownBy w row := ⟨rfl, rfl, rfl, Nat.le_refl _, fun _ _ _ => rfl⟩
theorem gb_trans {a b c : World} {row : Option Nat} (h : a.grownBy b row) (k : b.grownBy c row) : a.grownBy c row :=
  ⟨k.os.trans h.os, k.tape.trans h.tape, k.output.trans h.output, Nat.le_trans h.size k.size, fun i hi hr => (k.block i (Nat.lt_of_lt_of_le hi h.size) hr).trans (h.block i hi hr)⟩
theorem gb_below {a b : World} {row : Option Nat} (h : Below a.heap.size a b) : a.grownBy b row := ⟨h.os, h.tape, h.output, h.size, fun k hk _ => h.block k hk⟩
theorem below_gb {B fb : Nat} {a w w' : World} (h : Below B a w) (hg : w.grownBy w' (some fb)) (hB : B ≤ w.heap.size) (hf : B ≤ fb) : Below B a w' := h.grown hg hB fun k hk => by cases hk; exact hf
theorem gb_drewN (w : World) (n : Nat) (row : Option Nat) : w.grownBy (w.drewN n) row := ⟨rfl, rfl, rfl, Nat.le_refl _, fun _ _ _ => rfl⟩
theorem gb_setCell (w : World) (b o : Nat) (u : Value) : w.grownBy (w.setCell ⟨b, o, none⟩ u) (some b) :=
  ⟨rfl, rfl, rfl, by simp [World.setCell], fun k _ hk => Below.heap_setCell w ⟨b, o, none⟩ u k (fun e => hk (by rw [e]))⟩

set_option maxHeartbeats 1000000 in
theorem next_any (n : Nat) (hn0 : 0 < n) (hn : n ≤ 1000) (w : World) (B fb : Nat) (fd : List UInt8) (h : Hid (FD w B fb fd)) :
    Calls Tryz.prog 17 #[.pointer (some ⟨fb, 0, none⟩), .int .i64 n] w fun e w' => e = .returned (.int .i64 (nx n fd).1) ∧ w.grownBy w' (some fb) ∧ FD w' B fb (nx n fd).2 := by
  obtain ⟨raw, at_, hbk, hat, hraw, hfd⟩ := h.out.blk
  have c0 : w.cell? ⟨fb, 0, none⟩ = some (.string raw) := by simp [World.cell?, hbk]
  have c1 : w.cell? ⟨fb, 1, none⟩ = some (.int .i64 at_) := by simp [World.cell?, hbk]
  have f1 : w.frozen? ⟨fb, 1, none⟩ = false := by simp [World.frozen?, hbk]
  have HBK : Hid _ := hbk
  have HFD : Hid _ := hfd
  clear hbk hfd
  by_cases hlt : at_ < raw.size
  · have hlti : ¬ (raw.size : Int) ≤ (at_ : Int) := by omega
    have hlt2 : (at_ : Int) < (raw.size : Int) := by omega
    have HN : Hid (nx n fd = (raw[at_].toNat % n, raw.data.toList.drop (at_ + 1))) := by
      unfold Hid; rw [← HFD.out, drop_at raw at_ hlt]; rfl
    go_enter Tryz.func17, Tryz.ntmps17
    go_wp2
    go_quiet (fail)
    go_wp2
    go_quiet (fail)
    generalize hc : wrap64 (raw[at_].toNat : Int) = cc
    have HC : Hid (cc = (raw[at_].toNat : Int)) := by
      unfold Hid; rw [← hc]; have := raw[at_].toNat_lt; unfold wrap64; omega
    have hcc0 : 0 ≤ cc := by have := HC.out; omega
    have hcc1 : cc ≤ 255 := by have := HC.out; have := raw[at_].toNat_lt; omega
    clear hc
    go_wp2
    go_ret
    rw [HN.out]
    refine ⟨ret_int ?_, ?_, ?_⟩
    · have h1 := HC.out
      rw [h1]
      simp
    · exact gb_trans (gb_drewN w _ _) (gb_setCell _ fb 1 _)
    · refine ⟨⟨raw, at_ + 1, ?_, by omega, hraw, rfl⟩, h.out.low⟩
      exact two_setCell (w := w.drewN _) HBK.out
  · have hlti : (raw.size : Int) ≤ (at_ : Int) := by omega
    have HN : Hid (nx n fd = (0, [])) := by
      unfold Hid
      rw [← HFD.out, List.drop_of_length_le (by rw [len_eq]; omega)]
      rfl
    go_enter Tryz.func17, Tryz.ntmps17
    go_wp2
    go_quiet (fail)
    go_wp2
    go_ret
    rw [HN.out]
    refine ⟨rfl, gb_drewN w _ _, ?_⟩
    exact ⟨⟨raw, at_, HBK.out, hat, hraw, by rw [List.drop_of_length_le (by rw [len_eq]; omega)]⟩, h.out.low⟩

def nmT (n : Nat) : List UInt8 := [UInt8.ofNat (65 + n % 6), UInt8.ofNat (49 + n / 6)]
theorem nm_run (n : Nat) (hn : n < 48) (w : World) :
    (convert 118 9 (.slice (some ⟨w.heap.size, 0, none⟩) 2 2)).run Tryz.prog (w.alloc (.cells #[.int .u8 (65 + (n : Int) % 6), .int .u8 (49 + (n : Int) / 6)] 5)) = .ok (.string ⟨(nmT n).toArray⟩) (w.alloc (.cells #[.int .u8 (65 + (n : Int) % 6), .int .u8 (49 + (n : Int) / 6)] 5)) := by
  refine run_convert_bytes_back (P := Tryz.prog) (w.alloc (.cells #[.int .u8 (65 + (n : Int) % 6), .int .u8 (49 + (n : Int) / 6)] 5)) 118 9 5 ⟨w.heap.size, 0, none⟩ 2 (nmT n) Tryz.underlying118 Tryz.underlying5 Tryz.underlying9 fun j hj => ?_
  have h0 : (UInt8.ofNat (65 + n % 6)).toNat = 65 + n % 6 := by rw [UInt8.toNat_ofNat']; omega
  have h1 : (UInt8.ofNat (49 + n / 6)).toNat = 49 + n / 6 := by rw [UInt8.toNat_ofNat']; omega
  match j, hj with
  | 0, _ =>
    show _ = some (Value.int .u8 ((UInt8.ofNat (65 + n % 6)).toNat : Int))
    rw [h0]
    simp [Addr.add]
  | 1, _ =>
    show _ = some (Value.int .u8 ((UInt8.ofNat (49 + n / 6)).toNat : Int))
    rw [h1]
    simp [Addr.add]
set_option maxHeartbeats 1000000 in
set_option maxRecDepth 100000 in
theorem name_any (n : Nat) (hn : n < 48) (w : World) : Calls Tryz.prog 24 #[.int .i64 n] w fun e w' => e = .returned (.string ⟨(nmT n).toArray⟩) ∧ Below w.heap.size w w' := by
  have hr := nm_run n hn w
  go_enter Tryz.func24, Tryz.ntmps24
  go_wp2_with fail
  go_ret
  exact ⟨rfl, (Below.refl _ _).alloc (Nat.le_refl _) _⟩


theorem below_grow (B : Nat) (w : World) (hB : B ≤ w.heap.size) (k : Nat) (os : Array Obj) : Below B w (Go.Sort.grow (w.drewN k) os) :=
  Lib.below_grow B w hB k os
def Amb (w : World) : Prop := ErrVar w ∧ Lib.TabIs Tryz.prog w "internal/strconv.uint64pow10" .u64 Lib.pow10Tab ∧ SynVar w
theorem num_any (n : Nat) (hn : n < 1000) (w : World) (hA : Amb w) : Calls Tryz.prog 23 #[.int .i64 n] w fun e w' => e = .returned (.string ⟨(Lib.decDigits n).toArray⟩) ∧ Below w.heap.size w w' := by
  have hA2 : Hid _ := hA
  go_enter Tryz.func23, Tryz.ntmps23
  go_wp2_with fail
  refine (Tryz.strconv_Itoa n (by omega) (by omega) _ hA2.out.2.1).mono ?_
  rintro e w1 ⟨rfl, k, os, rfl⟩
  go_wp2_with fail
  go_ret
  have e : Lib.itoa (n : Int) = Lib.decDigits n := by unfold Lib.itoa; rw [if_neg (by omega)]; simp
  rw [e]
  exact ⟨rfl, below_grow _ w (Nat.le_refl _) k os⟩

theorem var_keeps {w w' : World} {n : String} {cs : Array Value} (hv : w.var? Tryz.prog n = some cs) (hb : Below w.heap.size w w') : w'.var? Tryz.prog n = some cs := by
  cases hg : Tryz.prog.globalNamed n with
  | none => unfold World.var? at hv; rw [hg] at hv; simp at hv
  | some g =>
    have hlt : g < w.heap.size := by
      unfold World.var? at hv
      simp only [hg, Option.bind_some] at hv
      by_cases h1 : g < w.heap.size
      · exact h1
      · rw [Array.getElem?_eq_none (by omega)] at hv
        simp at hv
    exact var?_below hb hg hlt hv
theorem Amb.below {w w' : World} (h : Amb w) (hb : Below w.heap.size w w') : Amb w' := by
  obtain ⟨h1, h2, tp, p, h3⟩ := h
  exact ⟨h1.below hb, var_keeps h2 hb, tp, p, var_keeps h3 hb⟩
end Go.Proofs.YtiocnfambeochaaGreatDoor

/- The sheet's own 'check', of any edit; Formula. -/
set_option linter.unusedVariables false
set_option linter.unusedSimpArgs false
namespace Go.Proofs.YtiocnfambeochaaGreatDoor
open Go.RowKit

theorem results_tmp4 {fn : Func} {t u v z : Tmp} (h : fn.results = #[.tmp t, .tmp u, .tmp v, .tmp z]) (tmps : Array Value) (P : Program) (w : World) :
    (results fn tmps).run P w = .ok (.tuple #[tmps.getD t undef, tmps.getD u undef, tmps.getD v undef, tmps.getD z undef]) w := by
  simp [results, h]
structure Ck where
  e : Int
  p : Nat
  c : Nat
  t : ByteArray
def ckN (bd : Nat → Int × Int) (c : Nat) (tx : ByteArray) : Ck :=
  match numT (rd tx.data.toList).ts with
  | some n => if n < (bd c).1 ∨ (bd c).2 < n then ⟨5, 0, 0, eB⟩ else ⟨0, 0, c, ⟨(plT tx.data.toList).toArray⟩⟩
  | none => ⟨0, 0, c, ⟨(plT tx.data.toList).toArray⟩⟩
def ckP (bd : Nat → Int × Int) (cl tx : ByteArray) : Ck :=
  match cellN cl.data.toList with
  | none => ⟨4, 0, 0, eB⟩
  | some c => if tx = eB then ⟨0, 0, c, eB⟩ else if (rd tx.data.toList).e ≠ 0 then ⟨(rd tx.data.toList).e, (rd tx.data.toList).p, 0, eB⟩ else ckN bd c tx
theorem rd_place (l : List UInt8) : (rd l).e = 0 → (rd l).p = 0 := by
  unfold rd
  split
  · simp
  · unfold rdA
    split
    · simp
    · split
      · simp
      · unfold rdP
        split
        · simp
        · split <;> simp
set_option maxHeartbeats 1000000 in
theorem refuses_w (w : World) (lo hi n : Int) : Calls Tryz.prog 80 #[.agg #[.int .i64 lo, .int .i64 hi], .int .i64 n] w fun e w' => e = .returned (.bool (decide (n < lo) || decide (hi < n))) ∧ Below w.heap.size w w' := by
  by_cases h1 : n < lo
  · go_enter Tryz.func80, Tryz.ntmps80
    go_wp2_with fail
    go_ret
    exact ⟨ret_bool (by simp [h1]), bl1 _ _⟩
  · by_cases h2 : hi < n
    · go_enter Tryz.func80, Tryz.ntmps80
      go_wp2_with fail
      go_ret
      exact ⟨ret_bool (by simp [h2]), bl1 _ _⟩
    · go_enter Tryz.func80, Tryz.ntmps80
      go_wp2_with fail
      go_ret
      exact ⟨ret_bool (by simp [h1, h2]), bl1 _ _⟩
theorem num_some {s : ByteArray} {c : Nat} (h : cellN s.data.toList = some c) (w : World) : Calls Tryz.prog 44 #[.string s] w fun e w' => e = .returned (.tuple #[.int .i64 c, .bool true]) ∧ ∃ n, w' = w.drewN n := by
  have := number_cell s w
  rw [cn_cellN, h] at this
  exact this
theorem num_none {s : ByteArray} (h : cellN s.data.toList = none) (w : World) : Calls Tryz.prog 44 #[.string s] w fun e w' => e = .returned (.tuple #[.int .i64 0, .bool false]) ∧ ∃ n, w' = w.drewN n := by
  have := number_cell s w
  rw [cn_cellN, h] at this
  exact this

section
variable {fs : Nat → ByteArray} {bd : Nat → Int × Int} {k : Kp}

set_option maxHeartbeats 2000000 in
theorem check_any' (W : World) (x : Nat) (cl tx : ByteArray) (hSR : Hid (SR W x fs bd k)) (hA : Hid (Amb W)) (hl : tx.size ≤ maxLen) :
    Calls Tryz.prog 56 #[.pointer (some ⟨x, 0, none⟩), .agg #[.string cl, .string tx]] W fun e w' => e = .returned (.tuple #[.int .i64 (ckP bd cl tx).c, .string (ckP bd cl tx).t, .int .i64 (ckP bd cl tx).e, .int .i64 (ckP bd cl tx).p]) ∧ Below W.heap.size W w' := by
  cases hcl : cellN cl.data.toList with
  | none =>
    have HF : Hid (ckP bd cl tx = ⟨4, 0, 0, eB⟩) := by unfold Hid ckP; rw [hcl]
    have HS : Hid _ := hcl
    clear hcl
    go_enter Tryz.func56, Tryz.ntmps56
    go_wp2_with fail
    refine (num_none HS.out _).mono ?_
    rintro e w1 ⟨rfl, n, hw⟩
    have HB1 : Hid (Below W.heap.size W w1) := by unfold Hid; rw [hw]; exact below_drewN (bl1 _ _) n
    clear hw
    go_wp2_with fail
    refine bodyPost_ret (results_tmp4 rfl _ _ _) rfl ?_
    rw [HF.out]
    exact ⟨rfl, HB1.out⟩
  | some c =>
    have hc := cellN_lt hcl
    have HS : Hid _ := hcl
    by_cases h0 : tx = eB
    · have HF : Hid (ckP bd cl tx = ⟨0, 0, c, eB⟩) := by unfold Hid ckP; rw [hcl]; simp only; rw [if_pos h0]
      clear hcl
      subst h0
      unfold eB
      go_enter Tryz.func56, Tryz.ntmps56
      go_wp2_with fail
      refine (num_some HS.out _).mono ?_
      rintro e w1 ⟨rfl, n, hw⟩
      have HB1 : Hid (Below W.heap.size W w1) := by unfold Hid; rw [hw]; exact below_drewN (bl1 _ _) n
      have hc1 : w1.cell? ⟨W.heap.size, 1, none⟩ = some (.string ⟨#[]⟩) := by
        rw [hw]
        show (W.alloc _).cell? _ = _
        rw [cell_of_row _ W.heap.size 1 _ 68 (0, 0) (heap_alloc_new W _)]
        rfl
      clear hw
      go_wp2_with fail
      refine bodyPost_ret (results_tmp4 rfl _ _ _) rfl ?_
      unfold eB at HF
      rw [HF.out]
      exact ⟨rfl, HB1.out⟩
    · have hse : tx.toList.isEmpty = false := by
        rw [← decide_eq_emptyBytes]
        exact decide_eq_false h0
      have HF : Hid (ckP bd cl tx = if (rd tx.data.toList).e ≠ 0 then ⟨(rd tx.data.toList).e, (rd tx.data.toList).p, 0, eB⟩ else ckN bd c tx) := by unfold Hid ckP; rw [hcl]; simp only; rw [if_neg h0]
      have HN : Hid (ckN bd c tx = match numT (rd tx.data.toList).ts with
        | some n => if n < (bd c).1 ∨ (bd c).2 < n then ⟨5, 0, 0, eB⟩ else ⟨0, 0, c, ⟨(plT tx.data.toList).toArray⟩⟩
        | none => ⟨0, 0, c, ⟨(plT tx.data.toList).toArray⟩⟩) := rfl
      have HSm : Hid _ := rd_small tx.data.toList
      have HL : Hid _ := rd_len tx.data.toList
      have HP2 : Hid (plT tx.data.toList = if (rd tx.data.toList).e = 0 then (rd tx.data.toList).ts.flatMap ptk else []) := rfl
      have HML : Hid (tx.size ≤ maxLen) := hl
      clear hcl h0 hl
      go_enter Tryz.func56, Tryz.ntmps56
      go_wp2_with fail
      refine (num_some HS.out _).mono ?_
      rintro e w1 ⟨rfl, n, hw⟩
      have HB1 : Hid (Below W.heap.size W w1) := by unfold Hid; rw [hw]; exact below_drewN (bl1 _ _) n
      have hc1 : w1.cell? ⟨W.heap.size, 1, none⟩ = some (.string tx) := by
        rw [hw]
        show (W.alloc _).cell? _ = _
        rw [cell_of_row _ W.heap.size 1 _ 68 (0, 0) (heap_alloc_new W _)]
        rfl
      clear hw
      have HE1 : Hid (ErrVar w1) := (hA.out.below HB1.out).1
      go_wp2_with fail
      refine (read_any tx _ HE1 HML.out).mono ?_
      rintro e w2 ⟨hb2, v, rfl, _, hown⟩
      obtain ⟨⟨e, p, ts⟩, hR⟩ : ∃ R, rd tx.data.toList = R := ⟨_, rfl⟩
      have HZ : Hid ((rd tx.data.toList).e = 0 → (rd tx.data.toList).p = 0) := rd_place _
      rw [hR] at hown HSm HL HP2 HF HN HZ ⊢
      clear hR
      simp only at hown HSm HL HP2 HF HN HZ ⊢
      have HB2 : Hid (Below W.heap.size W w2) := HB1.out.trans (hb2.mono HB1.out.size)
      by_cases he : e = 0
      · subst he
        have hz := HZ.out rfl
        subst hz
        have HP3 : Hid (plT tx.data.toList = ts.flatMap ptk) := by unfold Hid; rw [HP2.out, if_pos rfl]
        have HF2 : Hid (ckP bd cl tx = match numT ts with
          | some n => if n < (bd c).1 ∨ (bd c).2 < n then ⟨5, 0, 0, eB⟩ else ⟨0, 0, c, ⟨(plT tx.data.toList).toArray⟩⟩
          | none => ⟨0, 0, c, ⟨(plT tx.data.toList).toArray⟩⟩) := by unfold Hid; rw [HF.out, if_neg (by simp), HN.out]
        obtain ⟨ao, cp, hv⟩ : ∃ ao cp, v = .slice ao ts.length cp := by
          rcases hown.2 with ⟨hv, hn0⟩ | ⟨g, cap, cur, hv, _⟩
          · exact ⟨none, 0, by rw [hv, hn0]⟩
          · exact ⟨_, _, hv⟩
        subst hv
        have HO : Hid (w2.ownsRow w1.heap.size 142 3 (.slice ao ts.length cp) ts.length (ts.flatMap tkCells)) := hown
        have HA2 : Hid (Amb w2) := hA.out.below HB2.out
        clear hown hb2 HZ HF HN HP2
        go_wp2_with fail
        refine (numx_any _ _ ts (ownsRow_TL HO.out) (by have := HL.out; omega) (fun t h => Nat.le_trans (HSm.out t h) (by omega)) HA2.out.1 HA2.out.2.2).mono ?_
        rintro e w3 ⟨rfl, hb3⟩
        have HB3 : Hid (Below W.heap.size W w3) := HB2.out.trans (hb3.mono HB2.out.size)
        have HO3 : Hid (w3.ownsRow w1.heap.size 142 3 (.slice ao ts.length cp) ts.length (ts.flatMap tkCells)) := owns_below HO.out hb3
        obtain ⟨hlo, hhi⟩ := (hSR.out.below HB3.out).bnd c hc
        clear hb3 HO HA2
        cases hn : numT ts with
        | none =>
          have HF3 : Hid (ckP bd cl tx = ⟨0, 0, c, ⟨(ts.flatMap ptk).toArray⟩⟩) := by unfold Hid; rw [HF2.out, hn, HP3.out]
          clear hlo hhi hn HF2
          go_wp2_with fail
          refine (plain_any _ _ ts (ownsRow_TL HO3.out) (by have := HL.out; omega) (fun t h => Nat.le_trans (HSm.out t h) (by omega))).mono ?_
          rintro e w4 ⟨rfl, hb4⟩
          have HB4 : Hid (Below W.heap.size W w4) := HB3.out.trans (hb4.mono HB3.out.size)
          clear hb4
          go_wp2_with fail
          refine bodyPost_ret (results_tmp4 rfl _ _ _) rfl ?_
          rw [HF3.out]
          exact ⟨rfl, HB4.out⟩
        | some q =>
          have HF3 : Hid (ckP bd cl tx = if q < (bd c).1 ∨ (bd c).2 < q then ⟨5, 0, 0, eB⟩ else ⟨0, 0, c, ⟨(ts.flatMap ptk).toArray⟩⟩) := by unfold Hid; rw [HF2.out, hn, HP3.out]
          clear hn HF2
          go_wp2_with fail
          refine (refuses_w _ (bd c).1 (bd c).2 q).mono ?_
          rintro e w4 ⟨rfl, hb4⟩
          have HB4 : Hid (Below W.heap.size W w4) := HB3.out.trans (hb4.mono HB3.out.size)
          have HO4 : Hid (w4.ownsRow w1.heap.size 142 3 (.slice ao ts.length cp) ts.length (ts.flatMap tkCells)) := owns_below HO3.out hb4
          clear hb4 hlo hhi HO3
          by_cases hr : q < (bd c).1 ∨ (bd c).2 < q
          · have hd : (decide (q < (bd c).1) || decide ((bd c).2 < q)) = true := by simpa using hr
            have HF4 : Hid (ckP bd cl tx = ⟨5, 0, 0, eB⟩) := by unfold Hid; rw [HF3.out, if_pos hr]
            rw [hd]
            clear hr HF3 hd
            go_wp2_with fail
            refine bodyPost_ret (results_tmp4 rfl _ _ _) rfl ?_
            rw [HF4.out]
            exact ⟨rfl, HB4.out⟩
          · have hd : (decide (q < (bd c).1) || decide ((bd c).2 < q)) = false := by simpa using hr
            have HF4 : Hid (ckP bd cl tx = ⟨0, 0, c, ⟨(ts.flatMap ptk).toArray⟩⟩) := by unfold Hid; rw [HF3.out, if_neg hr]
            rw [hd]
            clear hr HF3 hd
            go_wp2_with fail
            refine (plain_any _ _ ts (ownsRow_TL HO4.out) (by have := HL.out; omega) (fun t h => Nat.le_trans (HSm.out t h) (by omega))).mono ?_
            rintro e w5 ⟨rfl, hb5⟩
            have HB5 : Hid (Below W.heap.size W w5) := HB4.out.trans (hb5.mono HB4.out.size)
            clear hb5
            go_wp2_with fail
            refine bodyPost_ret (results_tmp4 rfl _ _ _) rfl ?_
            rw [HF4.out]
            exact ⟨rfl, HB5.out⟩
      · have he' : (e != 0) = true := by simpa using he
        have HF2 : Hid (ckP bd cl tx = ⟨e, p, 0, eB⟩) := by unfold Hid; rw [HF.out, if_pos he]
        clear he hown hb2 HZ HF HN HP2
        go_wp2_with fail
        refine bodyPost_ret (results_tmp4 rfl _ _ _) rfl ?_
        rw [HF2.out]
        exact ⟨rfl, HB2.out⟩
end
end Go.Proofs.YtiocnfambeochaaGreatDoor
