/- The parser as a plain function (so many steps at most), and its functions 'formula', 'sum', 'product', 'corners', 'choice', 'bracketed', 'atom' in memory. -/
import Derived.Test.YtabcicijjdggdaaDoorNeg
import Derived.Deep.LoopGhost
namespace Go.Proofs.YtabcicijjdggdaaDoor
open Go.RowKit

/-- What came: was it there; the tokens; how many are passed; how many brackets are open. -/
structure PR where
  ok : Bool
  ts : List Tk
  i : Nat
  d : Nat

/-- Behind a part: no, or go on. -/
def andThen (r : Option PR) (k : List Tk → Nat → Nat → Option PR) : Option PR :=
  match r with
  | none => none
  | some r => if r.ok = true then k r.ts r.i r.d else some r

def wants (q : Int) (ts : List Tk) (i d : Nat) (k : List Tk → Nat → Nat → Option PR) : Option PR :=
  if kindAt ts i = q then k ts (i + 1) d else some ⟨false, ts, i, d⟩

def prs : Nat → Nat → List Tk → Nat → Nat → Option PR
  | 0, _, _, _, _ => none
  | f + 1, tag, ts, i, d =>
    if tag = 0 then andThen (prs f 1 ts i d) fun ts i d => if kindAt ts i ∈ [21, 22] then prs f 1 ts (i + 1) d else some ⟨true, ts, i, d⟩
    else if tag = 1 then andThen (prs f 2 ts i d) fun ts i d => if kindAt ts i ∈ [16, 17, 20] then prs f 1 ts (i + 1) d else some ⟨true, ts, i, d⟩
    else if tag = 2 then andThen (prs f 3 ts i d) fun ts i d => if kindAt ts i ∈ [18, 19] then prs f 2 ts (i + 1) d else some ⟨true, ts, i, d⟩
    else if tag = 3 then
      if kindAt (ngs 8 ts i).1 (ngs 8 ts i).2 ∈ [1, 2, 3, 4, 5] then some ⟨true, (ngs 8 ts i).1, (ngs 8 ts i).2 + 1, d⟩
      else if kindAt (ngs 8 ts i).1 (ngs 8 ts i).2 = 12 then prs f 6 (ngs 8 ts i).1 (ngs 8 ts i).2 d
      else if kindAt (ngs 8 ts i).1 (ngs 8 ts i).2 = 6 then prs f 7 (ngs 8 ts i).1 ((ngs 8 ts i).2 + 1) d
      else if kindAt (ngs 8 ts i).1 (ngs 8 ts i).2 ∈ [7, 8] then prs f 6 (ngs 8 ts i).1 ((ngs 8 ts i).2 + 1) d
      else if kindAt (ngs 8 ts i).1 (ngs 8 ts i).2 ∈ [9, 10] then prs f 8 (ngs 8 ts i).1 ((ngs 8 ts i).2 + 1) d
      else some ⟨false, (ngs 8 ts i).1, (ngs 8 ts i).2, d⟩
    else if tag = 4 then andThen (prs f 0 ts i d) fun ts i d => wants 14 ts i d fun ts i d => andThen (prs f 0 ts i d) fun ts i d => wants 14 ts i d fun ts i d => prs f 0 ts i d
    else if tag = 5 then wants 5 ts i d fun ts i d => wants 15 ts i d fun ts i d => wants 5 ts i d fun ts i d => some ⟨true, ts, i, d⟩
    else if d = 8 then some ⟨false, ts, i, d⟩
    else wants 12 ts i d fun ts i d => andThen (prs f (if tag = 6 then 0 else if tag = 7 then 4 else 5) ts i (d + 1)) fun ts i d => wants 13 ts i d fun ts i d => some ⟨true, ts, i, d - 1⟩

/-- The function does what the plain one says, at so many steps. -/
def Cal (fn tag f : Nat) : Prop := ∀ (w : World) (B pb : Nat) (v : Value) (ts : List Tk) (i d : Nat) (r : PR), PW w B pb v ts i d → prs f tag ts i d = some r →
  Calls Tryd.prog fn #[.pointer (some ⟨pb, 0, none⟩)] w fun e w' => e = .returned (.bool r.ok) ∧ Below B w w' ∧ PW w' B pb v r.ts r.i r.d

theorem prs0 (f : Nat) (ts : List Tk) (i d : Nat) : prs (f + 1) 0 ts i d = andThen (prs f 1 ts i d) fun ts i d => if kindAt ts i ∈ [21, 22] then prs f 1 ts (i + 1) d else some ⟨true, ts, i, d⟩ := rfl
theorem prs1 (f : Nat) (ts : List Tk) (i d : Nat) : prs (f + 1) 1 ts i d = andThen (prs f 2 ts i d) fun ts i d => if kindAt ts i ∈ [16, 17, 20] then prs f 1 ts (i + 1) d else some ⟨true, ts, i, d⟩ := rfl
theorem prs2 (f : Nat) (ts : List Tk) (i d : Nat) : prs (f + 1) 2 ts i d = andThen (prs f 3 ts i d) fun ts i d => if kindAt ts i ∈ [18, 19] then prs f 2 ts (i + 1) d else some ⟨true, ts, i, d⟩ := rfl

theorem tk_yes {ks : List Int} {q : Int} (i : Nat) (h : q ∈ ks) : tkB ks q = true ∧ tkI ks q i = i + 1 := ⟨decide_eq_true h, if_pos h⟩
theorem tk_no {ks : List Int} {q : Int} (i : Nat) (h : ¬ q ∈ ks) : tkB ks q = false ∧ tkI ks q i = i := ⟨decide_eq_false h, if_neg h⟩

set_option maxHeartbeats 1000000 in
theorem formula_step (f : Nat) (s1 : Cal 30 1 f) : Cal 21 0 (f + 1) := by
  intro w B pb v ts i d r hpw he
  rw [prs0] at he
  match hr : prs f 1 ts i d with
  | none => rw [hr] at he; simp [andThen] at he
  | some r1 =>
    rw [hr] at he
    have HR : Hid _ := hr
    have HE : Hid _ := he
    have HP : Hid _ := hpw
    clear hr he hpw
    cases hok : r1.ok
    · have hrr : Hid (r1 = r) := by
        have := HE.out
        simp only [andThen, hok, Bool.false_eq_true, if_false, Option.some.injEq] at this
        exact this
      have HO : Hid _ := hok
      clear hok HE
      go_enter Tryd.func21, Tryd.ntmps21
      go_wp2_with fail
      refine (s1 _ B pb v ts i d r1 HP.out HR.out).mono ?_
      rintro e w1 ⟨rfl, hb1, hp1⟩
      rw [HO.out]
      go_wp2_with fail
      go_ret
      rw [← hrr.out, HO.out]
      exact ⟨rfl, hb1, hp1⟩
    · have HO : Hid _ := hok
      by_cases hin : kindAt r1.ts r1.i ∈ [21, 22]
      · obtain ⟨hB, hI⟩ := tk_yes r1.i hin
        have h2 : Hid (prs f 1 r1.ts (r1.i + 1) r1.d = some r) := by
          have := HE.out
          simp only [andThen, hok, if_true, if_pos hin] at this
          exact this
        have HB : Hid _ := hB
        have HI : Hid _ := hI
        clear hok HE hin hB hI
        go_enter Tryd.func21, Tryd.ntmps21
        go_wp2_with fail
        refine (s1 _ B pb v ts i d r1 HP.out HR.out).mono ?_
        rintro e w1 ⟨rfl, hb1, hp1⟩
        rw [HO.out]
        have HP1 : Hid _ := hp1
        have HB1 : Hid _ := hb1
        clear hp1 hb1
        go_wp2_with fail
        refine (take2 21 22 (by decide) (by decide) _ B pb v _ _ _ HP1).mono ?_
        rintro e w2 ⟨rfl, hb2, hp2⟩
        rw [HB.out]
        rw [HI.out] at hp2
        have HP2 : Hid _ := hp2
        have HB2 : Hid _ := hb2
        clear hp2 hb2
        go_wp2_with fail
        refine (s1 _ B pb v _ _ _ r HP2.out h2.out).mono ?_
        rintro e w3 ⟨rfl, hb3, hp3⟩
        go_wp2_with fail
        go_ret
        exact ⟨rfl, (HB1.out.trans HB2.out).trans hb3, hp3⟩
      · obtain ⟨hB, hI⟩ := tk_no r1.i hin
        have hrr : Hid (⟨true, r1.ts, r1.i, r1.d⟩ = r) := by
          have := HE.out
          simp only [andThen, hok, if_true, if_neg hin, Option.some.injEq] at this
          exact this
        have HB : Hid _ := hB
        have HI : Hid _ := hI
        clear hok HE hin hB hI
        go_enter Tryd.func21, Tryd.ntmps21
        go_wp2_with fail
        refine (s1 _ B pb v ts i d r1 HP.out HR.out).mono ?_
        rintro e w1 ⟨rfl, hb1, hp1⟩
        rw [HO.out]
        have HP1 : Hid _ := hp1
        have HB1 : Hid _ := hb1
        clear hp1 hb1
        go_wp2_with fail
        refine (take2 21 22 (by decide) (by decide) _ B pb v _ _ _ HP1).mono ?_
        rintro e w2 ⟨rfl, hb2, hp2⟩
        rw [HB.out]
        rw [HI.out] at hp2
        go_wp2_with fail
        go_ret
        rw [← hrr.out]
        exact ⟨rfl, HB1.out.trans hb2, hp2⟩
end Go.Proofs.YtabcicijjdggdaaDoor
