/- Texts put together. -/
import Derived.Test.YtiocnfambeochaaGreatDoorQ12
import Derived.Test.YtiocnfambeochaaGreatDoorQ11
import Derived.Lib.Builder
import Derived.Lib.AppendStr
import Derived.Laws.Externs
/- The plain parser comes to an end: so many steps are enough. -/
namespace Go.Proofs.YtiocnfambeochaaGreatDoor
open Go.RowKit

def rk (tag : Nat) : Nat := if tag = 4 then 6 else if tag = 0 then 5 else if tag = 1 then 4 else if tag = 2 then 3 else if tag = 3 then 2 else if tag = 5 then 0 else 1

theorem ngs_facts : ∀ (n : Nat) (ts : List Tk) (i : Nat), i ≤ ts.length → i ≤ (ngs n ts i).2 ∧ (ngs n ts i).2 ≤ ts.length ∧ (ngs n ts i).1.length = ts.length
  | 0, ts, i, h => ⟨Nat.le_refl _, h, rfl⟩
  | n + 1, ts, i, h => by
    unfold ngs
    by_cases hk : kindAt ts i = 17
    · rw [if_pos hk]
      have hl := kindAt_lt (ts := ts) (i := i) (by rw [hk]; decide)
      have := ngs_facts n (mark ts i) (i + 1) (by rw [mark_len]; omega)
      rw [mark_len] at this
      omega
    · rw [if_neg hk]; exact ⟨Nat.le_refl _, h, rfl⟩

def Fine (ts : List Tk) (i : Nat) (r : PR) : Prop := i ≤ r.i ∧ r.i ≤ ts.length ∧ r.ts.length = ts.length

theorem and_fine {x : Option PR} {k : List Tk → Nat → Nat → Option PR} {ts : List Tk} {i : Nat} (hx : ∃ r, x = some r ∧ Fine ts i r)
    (hk : ∀ us j d, us.length = ts.length → i ≤ j → j ≤ ts.length → ∃ r, k us j d = some r ∧ Fine us j r) : ∃ r, andThen x k = some r ∧ Fine ts i r := by
  obtain ⟨r, rfl, h1, h2, h3⟩ := hx
  unfold andThen
  by_cases hok : r.ok = true
  · simp only [hok, if_true]
    obtain ⟨r2, e2, g1, g2, g3⟩ := hk r.ts r.i r.d h3 h1 h2
    exact ⟨r2, e2, by omega, by omega, by omega⟩
  · simp only [hok, Bool.false_eq_true, if_false]
    exact ⟨r, rfl, h1, h2, h3⟩
theorem wants_fine {q : Int} (hq : q ≠ 0) {ts : List Tk} {i d : Nat} {k : List Tk → Nat → Nat → Option PR} (hi : i ≤ ts.length)
    (hk : i + 1 ≤ ts.length → ∃ r, k ts (i + 1) d = some r ∧ Fine ts (i + 1) r) : ∃ r, wants q ts i d k = some r ∧ Fine ts i r := by
  unfold wants
  by_cases h : kindAt ts i = q
  · rw [if_pos h]
    obtain ⟨r, e, g1, g2, g3⟩ := hk (kindAt_lt (by rw [h]; exact hq))
    exact ⟨r, e, by omega, g2, g3⟩
  · rw [if_neg h]; exact ⟨_, rfl, Nat.le_refl _, hi, rfl⟩

theorem if_fine {ks : List Int} (h0 : ¬ (0 : Int) ∈ ks) {ts : List Tk} {i d : Nat} {y : Option PR} (hi : i ≤ ts.length)
    (hk : i + 1 ≤ ts.length → ∃ r, y = some r ∧ Fine ts (i + 1) r) : ∃ r, (if kindAt ts i ∈ ks then y else some ⟨true, ts, i, d⟩) = some r ∧ Fine ts i r := by
  by_cases h : kindAt ts i ∈ ks
  · rw [if_pos h]
    obtain ⟨r, e, g1, g2, g3⟩ := hk (kindAt_lt (fun e => h0 (by rw [← e]; exact h)))
    exact ⟨r, e, by omega, g2, g3⟩
  · rw [if_neg h]; exact ⟨_, rfl, Nat.le_refl _, hi, rfl⟩

theorem prs_fuel : ∀ (f tag : Nat) (ts : List Tk) (i d : Nat), i ≤ ts.length → 8 * (ts.length - i) + rk tag < f → ∃ r, prs f tag ts i d = some r ∧ Fine ts i r
  | 0, _, _, _, _, _, h => by omega
  | f + 1, tag, ts, i, d, hi, hf => by
    have ih := prs_fuel f
    unfold prs
    by_cases t0 : tag = 0
    · rw [if_pos t0]
      have e : rk tag = 5 := by rw [t0]; rfl
      refine and_fine (ih 1 ts i d hi (by have : rk 1 = 4 := rfl; omega)) fun us j d hu h1 h2 => if_fine (by decide) (by omega) fun h3 => ?_
      exact ih 1 us (j + 1) d h3 (by have : rk 1 = 4 := rfl; omega)
    rw [if_neg t0]
    by_cases t1 : tag = 1
    · rw [if_pos t1]
      have e : rk tag = 4 := by rw [t1]; rfl
      refine and_fine (ih 2 ts i d hi (by have : rk 2 = 3 := rfl; omega)) fun us j d hu h1 h2 => if_fine (by decide) (by omega) fun h3 => ?_
      exact ih 1 us (j + 1) d h3 (by have : rk 1 = 4 := rfl; omega)
    rw [if_neg t1]
    by_cases t2 : tag = 2
    · rw [if_pos t2]
      have e : rk tag = 3 := by rw [t2]; rfl
      refine and_fine (ih 3 ts i d hi (by have : rk 3 = 2 := rfl; omega)) fun us j d hu h1 h2 => if_fine (by decide) (by omega) fun h3 => ?_
      exact ih 2 us (j + 1) d h3 (by have : rk 2 = 3 := rfl; omega)
    rw [if_neg t2]
    by_cases t3 : tag = 3
    · rw [if_pos t3]
      have e : rk tag = 2 := by rw [t3]; rfl
      obtain ⟨n1, n2, n3⟩ := ngs_facts 8 ts i hi
      generalize (ngs 8 ts i).1 = us at *
      generalize (ngs 8 ts i).2 = j at *
      have lift : ∀ (x : Option PR) (m : Nat), i ≤ m → (∃ r, x = some r ∧ Fine us m r) → ∃ r, x = some r ∧ Fine ts i r := fun x m hm ⟨r, e, g1, g2, g3⟩ => ⟨r, e, by omega, by omega, by omega⟩
      by_cases k1 : kindAt us j ∈ [1, 2, 3, 4, 5]
      · rw [if_pos k1]
        have hl := kindAt_lt (ts := us) (i := j) (fun e => by rw [e] at k1; revert k1; decide)
        exact ⟨_, rfl, by simp only; omega, by simp only; omega, n3⟩
      rw [if_neg k1]
      by_cases k2 : kindAt us j = 12
      · rw [if_pos k2]; exact lift _ j n1 (ih 6 us j d (by omega) (by have : rk 6 = 1 := rfl; omega))
      rw [if_neg k2]
      by_cases k3 : kindAt us j = 6
      · rw [if_pos k3]
        have hl := kindAt_lt (ts := us) (i := j) (fun e => by rw [e] at k3; revert k3; decide)
        exact lift _ (j + 1) (by omega) (ih 7 us (j + 1) d (by omega) (by have : rk 7 = 1 := rfl; omega))
      rw [if_neg k3]
      by_cases k4 : kindAt us j ∈ [7, 8]
      · rw [if_pos k4]
        have hl := kindAt_lt (ts := us) (i := j) (fun e => by rw [e] at k4; revert k4; decide)
        exact lift _ (j + 1) (by omega) (ih 6 us (j + 1) d (by omega) (by have : rk 6 = 1 := rfl; omega))
      rw [if_neg k4]
      by_cases k5 : kindAt us j ∈ [9, 10]
      · rw [if_pos k5]
        have hl := kindAt_lt (ts := us) (i := j) (fun e => by rw [e] at k5; revert k5; decide)
        exact lift _ (j + 1) (by omega) (ih 8 us (j + 1) d (by omega) (by have : rk 8 = 1 := rfl; omega))
      rw [if_neg k5]
      exact ⟨_, rfl, n1, n2, n3⟩
    rw [if_neg t3]
    have r0 : rk 0 = 5 := rfl
    by_cases t4 : tag = 4
    · rw [if_pos t4]
      have e : rk tag = 6 := by rw [t4]; rfl
      refine and_fine (ih 0 ts i d hi (by omega)) fun us j d hu h1 h2 => wants_fine (by decide) (by omega) fun h3 => ?_
      refine and_fine (ih 0 us (j + 1) d h3 (by omega)) fun us2 j2 d2 hu2 h12 h22 => wants_fine (by decide) (by omega) fun h32 => ?_
      exact ih 0 us2 (j2 + 1) d2 h32 (by omega)
    rw [if_neg t4]
    by_cases t5 : tag = 5
    · rw [if_pos t5]
      exact wants_fine (by decide) hi fun h1 => wants_fine (by decide) h1 fun h2 => wants_fine (by decide) h2 fun h3 => ⟨_, rfl, Nat.le_refl _, h3, rfl⟩
    rw [if_neg t5]
    have e : rk tag = 1 := by unfold rk; rw [if_neg t4, if_neg t0, if_neg t1, if_neg t2, if_neg t3, if_neg t5]
    by_cases t8 : d = 8
    · rw [if_pos t8]; exact ⟨_, rfl, Nat.le_refl _, hi, rfl⟩
    rw [if_neg t8]
    refine wants_fine (by decide) hi fun h1 => ?_
    refine and_fine ?_ fun us j d hu h1 h2 => wants_fine (by decide) (by omega) fun h3 => ⟨_, rfl, Nat.le_refl _, h3, rfl⟩
    have hr : ∀ t, rk t ≤ 6 := fun t => by unfold rk; (repeat' split) <;> omega
    exact ih _ ts (i + 1) (d + 1) h1 (by have := hr (if tag = 6 then 0 else if tag = 7 then 4 else 5); omega)
end Go.Proofs.YtiocnfambeochaaGreatDoor

/- The program's 'Read': a formula's tokens, or its fault and place. -/
namespace Go.Proofs.YtiocnfambeochaaGreatDoor
open Go.RowKit

structure RD where
  e : Int
  p : Nat
  ts : List Tk
def rdP (n : Nat) (r : PR) : RD :=
  if r.ok = false ∨ r.i < r.ts.length then ⟨3, plcAt r.ts r.i n, []⟩
  else match chk r.ts.length r.ts with
    | some p => ⟨4, p, []⟩
    | none => ⟨0, 0, r.ts⟩
def rdA (l : List UInt8) : RD :=
  match (scn l.length l 0).2 with
    | some p => ⟨2, p, []⟩
    | none => match prs (8 * (scn l.length l 0).1.length + 6) 0 (scn l.length l 0).1 0 0 with
      | none => ⟨3, 0, []⟩
      | some r => rdP l.length r
def rd (l : List UInt8) : RD := if 120 < l.length then ⟨1, 0, []⟩ else rdA l

theorem ownsRow_TL {w : World} {B : Nat} {v : Value} {ts : List Tk} (ho : w.ownsRow B 142 3 v ts.length (ts.flatMap tkCells)) : TL w v ts := by
  rcases ho.2 with ⟨hv, hn⟩ | ⟨g, cap, cur, hv, hg, hh, hnc, hcm, hcs, htake⟩
  · exact Or.inl ⟨hv, List.length_eq_zero_iff.1 hn⟩
  · refine Or.inr ⟨g, cap, hv, hnc, fun j t hj => ?_⟩
    rw [hv] at ho
    have hjl : j < ts.length := (List.getElem?_eq_some_iff.1 hj).1
    obtain ⟨f0, f1, f2⟩ := flat_get ts j t hj
    exact ⟨by rw [ho.cellAt (j * 3) (by omega)]; exact f0, by rw [ho.cellAt (j * 3 + 1) (by omega)]; exact f1, by rw [ho.cellAt (j * 3 + 2) (by omega)]; exact f2⟩

theorem scn_len : ∀ (n : Nat) (l : List UInt8) (p : Nat), (scn n l p).1.length ≤ l.length
  | 0, _, _ => by simp [scn]
  | _ + 1, [], _ => by simp [scn]
  | n + 1, c :: r, p => by
    unfold scn
    by_cases h1 : c = 32
    · rw [if_pos h1]; have := scn_len n r (p + 1); simp only [List.length_cons]; omega
    rw [if_neg h1]
    by_cases h2 : (tok1 (c :: r)).1 = 0
    · rw [if_pos h2]; simp
    rw [if_neg h2]
    have h3 := tok1_size (c :: r) h2
    have := scn_len n ((c :: r).drop (tok1 (c :: r)).2) (p + (tok1 (c :: r)).2)
    simp only [List.length_cons, List.length_drop] at this h3 ⊢
    omega

theorem owns_below2 {w w' : World} {base : Nat} {e : TypeId} {size : Nat} {v : Value} {n : Nat} {xs : List Value} (h : w.ownsRow base e size v n xs) (hb : Below w.heap.size w w') : w'.ownsRow base e size v n xs := by
  refine ⟨h.1, ?_⟩
  rcases h.2 with h2 | ⟨g, cap, cur, hv, hg, hh, r⟩
  · exact Or.inl h2
  · exact Or.inr ⟨g, cap, cur, hv, hg, by rw [hb.block g ((Array.getElem?_eq_some_iff.1 hh).1)]; exact hh, r⟩

set_option maxHeartbeats 2000000 in
theorem readAll_any (s : ByteArray) (w : World) (hE : Hid (ErrVar w)) (hs : s.size ≤ 100000) :
    Calls Tryz.prog 63 #[.string s] w fun e w' => Below w.heap.size w w' ∧ ∃ v, e = .returned (.tuple #[v, .int .i64 (rdA s.data.toList).e, .int .i64 (rdA s.data.toList).p]) ∧
      ((rdA s.data.toList).e ≠ 0 → v = .slice none 0 0) ∧ w'.ownsRow w.heap.size 142 3 v (rdA s.data.toList).ts.length ((rdA s.data.toList).ts.flatMap tkCells) := by
  have hlen := len_eq s
  have HR : Hid (rdA s.data.toList = match (scn s.size s.data.toList 0).2 with
    | some p => ⟨2, p, []⟩
    | none => match prs (8 * (scn s.size s.data.toList 0).1.length + 6) 0 (scn s.size s.data.toList 0).1 0 0 with
      | none => ⟨3, 0, []⟩
      | some r => rdP s.size r) := by unfold Hid rdA; rw [hlen]
  have HL : Hid _ := scn_len s.size s.data.toList 0
  rw [hlen] at HL
  clear hlen
  go_enter Tryz.func63, Tryz.ntmps63
  go_wp2_with fail
  refine (scan_any s _ (by omega) hE).mono ?_
  rintro e w1 ⟨hb1, ⟨hn, v, rfl, hown⟩ | ⟨p, hn, rfl⟩⟩
  · have HR2 := HR.out
    rw [hn] at HR2
    have hl := HL.out
    generalize (scn s.size s.data.toList 0).1 = ts at *
    simp only at HR2
    obtain ⟨r, hr, hfine⟩ := prs_fuel (8 * ts.length + 6) 0 ts 0 0 (by omega) (by have : rk 0 = 5 := rfl; omega)
    rw [hr] at HR2
    simp only at HR2
    obtain ⟨ao, c, hv⟩ : ∃ ao c, v = .slice ao ts.length c := by
      rcases hown.2 with ⟨hv, hn0⟩ | ⟨g, cap, cur, hv, _⟩
      · exact ⟨none, 0, by rw [hv, hn0]⟩
      · exact ⟨_, _, hv⟩
    subst hv
    have HRR : Hid _ := HR2
    have HPR : Hid _ := hr
    have HB1 : Hid _ := hb1
    have HO : Hid (w1.ownsRow w.heap.size 142 3 (.slice ao ts.length c) ts.length (ts.flatMap tkCells)) := hown
    have HSZ : Hid (w.heap.size ≤ w1.heap.size) := hb1.size
    have HPW : Hid (PW (w1.alloc (.cells #[.slice ao ts.length c, .int .i64 0, .int .i64 0] 194)) w.heap.size w1.heap.size (.slice ao ts.length c) ts 0 0) := by
      refine ⟨heap_alloc_new w1 _, HO.out.alloc _, HSZ.out, ?_, Nat.zero_le _, by omega, by omega⟩
      intro hcon
      have := (HO.out.lt _ hcon).2
      omega
    clear HR HR2 hr hb1 hn hown HL
    go_wp2_with fail
    refine (formula_any (8 * ts.length + 6) _ w.heap.size w1.heap.size _ ts 0 0 r HPW.out HPR.out).mono ?_
    rintro e w2 ⟨rfl, hb2, hp2⟩
    have HB2 : Hid (Below w.heap.size w w2) := (HB1.out.alloc HSZ.out _).trans hb2
    have HP2 : Hid _ := hp2
    have c1 := hp2.c1
    have HOW : Hid _ := hp2.own
    have hle := hp2.le
    obtain ⟨_, hf2, hf3⟩ := hfine
    clear hb2 hp2 HPW
    cases hok : r.ok
    · have HRR2 : Hid (rdA s.data.toList = ⟨3, plcAt r.ts r.i s.size, []⟩) := by unfold Hid; rw [HRR.out, rdP, if_pos (Or.inl hok)]
      clear HRR hok
      go_wp2_with fail
      refine (place_any _ w.heap.size w1.heap.size _ r.ts r.i r.d s.size HP2).mono ?_
      rintro e w3 ⟨rfl, m, rfl⟩
      go_wp2_with fail
      go_ret3
      rw [HRR2.out]
      exact ⟨below_drewN HB2.out m, _, rfl, fun _ => rfl, World.ownsRow_nil _ _ _ _⟩
    by_cases hin : r.i < r.ts.length
    · have HRR2 : Hid (rdA s.data.toList = ⟨3, plcAt r.ts r.i s.size, []⟩) := by unfold Hid; rw [HRR.out, rdP, if_pos (Or.inr hin)]
      have hini : (r.i : Int) < (ts.length : Int) := by omega
      clear HRR hok
      go_wp2_with fail
      refine (place_any _ w.heap.size w1.heap.size _ r.ts r.i r.d s.size HP2).mono ?_
      rintro e w3 ⟨rfl, m, rfl⟩
      go_wp2_with fail
      go_ret3
      rw [HRR2.out]
      exact ⟨below_drewN HB2.out m, _, rfl, fun _ => rfl, World.ownsRow_nil _ _ _ _⟩
    · have HRR2 : Hid (rdA s.data.toList = match chk r.ts.length r.ts with | some p => ⟨4, p, []⟩ | none => ⟨0, 0, r.ts⟩) := by
        unfold Hid; rw [HRR.out, rdP, if_neg (by simp [hok, hin])]
      have hini : ¬ (r.i : Int) < (ts.length : Int) := by omega
      clear HRR hok
      go_wp2_with fail
      refine (check_any _ _ r.ts (ownsRow_TL HOW.out) (by omega)).mono ?_
      rintro e w3 ⟨hb3, ⟨hck, rfl⟩ | ⟨p, hck, rfl⟩⟩
      all_goals have HB3 : Hid (Below w.heap.size w w3) := HB2.out.trans (hb3.mono HB2.out.size)
      all_goals have HOW3 : Hid _ := owns_below2 HOW.out hb3
      all_goals clear hb3
      · have HF : Hid (rdA s.data.toList = ⟨0, 0, r.ts⟩) := by unfold Hid; rw [HRR2.out, hck]
        clear HRR2 hck
        go_wp2_with fail
        go_ret3
        rw [HF.out]
        exact ⟨HB3.out, _, rfl, fun h => absurd rfl h, HOW3.out⟩
      · have HF : Hid (rdA s.data.toList = ⟨4, p, []⟩) := by unfold Hid; rw [HRR2.out, hck]
        clear HRR2 hck
        go_wp2_with fail
        go_ret3
        rw [HF.out]
        exact ⟨HB3.out, _, rfl, fun _ => rfl, World.ownsRow_nil _ _ _ _⟩
  · have HR2 : Hid (rdA s.data.toList = ⟨2, p, []⟩) := by unfold Hid; rw [HR.out, hn]
    clear HR hn
    go_wp2_with fail
    go_ret3
    rw [HR2.out]
    exact ⟨hb1, _, rfl, fun _ => rfl, World.ownsRow_nil _ _ _ _⟩

set_option maxHeartbeats 1000000 in
theorem read_any (s : ByteArray) (w : World) (hE : Hid (ErrVar w)) (hs : s.size ≤ maxLen) :
    Calls Tryz.prog 41 #[.string s] w fun e w' => Below w.heap.size w w' ∧ ∃ v, e = .returned (.tuple #[v, .int .i64 (rd s.data.toList).e, .int .i64 (rd s.data.toList).p]) ∧
      ((rd s.data.toList).e ≠ 0 → v = .slice none 0 0) ∧ w'.ownsRow w.heap.size 142 3 v (rd s.data.toList).ts.length ((rd s.data.toList).ts.flatMap tkCells) := by
  have hlen := len_eq s
  unfold maxLen at hs
  by_cases h120 : 120 < s.size
  · have HR : Hid (rd s.data.toList = ⟨1, 0, []⟩) := by unfold Hid rd; rw [if_pos (by omega)]
    clear hlen
    go_enter Tryz.func41, Tryz.ntmps41
    go_wp2_with fail
    go_ret3
    rw [HR.out]
    exact ⟨Below.refl _ _, _, rfl, fun _ => rfl, World.ownsRow_nil _ _ _ _⟩
  have HR : Hid (rd s.data.toList = rdA s.data.toList) := by unfold Hid rd; rw [if_neg (by omega)]
  clear hlen
  go_enter Tryz.func41, Tryz.ntmps41
  go_wp2_with fail
  refine (readAll_any s _ hE (by omega)).mono ?_
  rintro e w1 ⟨hb1, v, rfl, hv, hown⟩
  have HB : Hid _ := hb1
  have HV : Hid _ := hv
  have HO : Hid _ := hown
  clear hb1 hv hown
  go_wp2_with fail
  go_ret3
  rw [HR.out]
  exact ⟨HB.out, _, rfl, HV.out, HO.out⟩
end Go.Proofs.YtiocnfambeochaaGreatDoor

/- 'grammar.Number', exactly. -/
set_option linter.unusedVariables false
namespace Go.Proofs.YtiocnfambeochaaGreatDoor
open Go.RowKit

def pI (x : List UInt8) : Option Int := match Lib.parseIntB 64 x with | .ok v => some v | _ => none
def numT (ts : List Tk) : Option Int :=
  match ts with
  | [t] => if t.k = 1 then (pI t.x).map wrap64 else none
  | [m, t] => if m.k = 23 ∧ t.k = 1 then (pI t.x).map fun v => wrap64 (-v) else none
  | _ => none
theorem parse_ex (t : ByteArray) (ht : t.size ≤ 1000) (w : World) (hE : ErrVar w) (hS : SynVar w) :
    Calls Tryz.prog 108 #[.string t, .int .i64 10, .int .i64 64] w fun e w' => ∃ x y, e = .returned (.tuple #[.int .i64 x, y]) ∧ ((y = .nilIface ∧ pI t.data.toList = some x) ∨ ((∃ N, y = .iface 269 (.pointer (some ⟨N, 0, none⟩))) ∧ pI t.data.toList = none)) ∧ Below w.heap.size w w' := by
  unfold pI
  cases h : Lib.parseIntB 64 t.data.toList with
  | ok v =>
    refine (Tryz.strconv_ParseInt_10_at64_ok t (by omega) v h w).mono ?_
    rintro e w' ⟨rfl, rfl | ⟨t, rfl⟩⟩
    · exact ⟨_, _, rfl, .inl ⟨rfl, rfl⟩, Below.refl _ _⟩
    · exact ⟨_, _, rfl, .inl ⟨rfl, rfl⟩, Lib.bytesWorld_below w 5 t⟩
  | range =>
    obtain ⟨tp, p, hv⟩ := hE
    refine (Tryz.strconv_ParseInt_10_at64_range_var t (by omega) h tp p w hv).mono ?_
    rintro e w' ⟨N, rfl, _, _, hb⟩
    exact ⟨_, _, rfl, .inr ⟨⟨N, rfl⟩, rfl⟩, hb⟩
  | _ =>
    obtain ⟨tp, p, hv⟩ := hS
    have hs := (Any.strconv_ParseInt_10_at64_syntax_var Tryz.laysC174 t (by omega) h tp p w hv).mono (R' := fun e w' => ∃ x y, e = .returned (.tuple #[.int .i64 x, y]) ∧ ((y = .nilIface ∧ (none : Option Int) = some x) ∨ ((∃ N, y = .iface 269 (.pointer (some ⟨N, 0, none⟩))) ∧ (none : Option Int) = none)) ∧ Below w.heap.size w w') (by
      rintro e w' ⟨N, rfl, _, _, hb⟩
      exact ⟨_, _, rfl, .inr ⟨⟨N, rfl⟩, rfl⟩, hb⟩)
    exact hs
def NumE (W : World) (o : Option Int) (e : Ending) (w' : World) : Prop := e = .returned (.tuple #[.int .i64 (o.getD 0), .bool o.isSome]) ∧ Below W.heap.size W w'

set_option maxHeartbeats 1000000 in
theorem numx_plain (w : World) (ao : Option Addr) (m c : Nat) (k : Int) (t : ByteArray) (hm : m ≤ 1000000) (hk : k ≠ 23) (hao : 0 < m → ∃ g, ao = some ⟨g, 0, none⟩ ∧ w.cell? ⟨g, 0, none⟩ = some (.int .i64 k) ∧ (m = 1 → w.cell? ⟨g, 1, none⟩ = some (.string t) ∧ t.size ≤ 1000))
    (hE : Hid (ErrVar w)) (hS : Hid (SynVar w)) : Calls Tryz.prog 79 #[.slice ao m c] w (NumE w (if m = 1 ∧ k = 1 then (pI t.data.toList).map wrap64 else none)) := by
  by_cases h0 : 0 < m
  · obtain ⟨g, rfl, hc, ht⟩ := hao h0
    have h0i : (0 : Int) < (m : Int) := by omega
    have bk : (k == 23) = false := by simpa using hk
    by_cases h1 : m = 1
    · obtain ⟨ht1, hts⟩ := ht h1
      have HTS : Hid _ := hts
      clear ht hts hk hao
      subst h1
      by_cases hk1 : k = 1
      · have bk1 : (k != 1) = false := by simpa using hk1
        rw [if_pos ⟨rfl, hk1⟩]
        clear hk1
        go_enter Tryz.func79, Tryz.ntmps79
        go_wp2_with fail
        refine (parse_ex t HTS.out _ hE.out hS.out).mono ?_
        rintro e w1 ⟨x, y, rfl, ⟨rfl, hp⟩ | ⟨⟨N, rfl⟩, hp⟩, hb⟩
        · have HB : Hid _ := hb
          have HP : Hid _ := hp
          clear hb hp
          go_wp2_with fail
          go_ret2
          unfold NumE
          rw [HP.out]
          exact ⟨rfl, HB.out⟩
        · have HB : Hid _ := hb
          have HP : Hid _ := hp
          clear hb hp
          go_wp2_with fail
          go_ret2
          unfold NumE
          rw [HP.out]
          exact ⟨rfl, HB.out⟩
      · have bk1 : (k != 1) = true := by simpa using hk1
        rw [if_neg (fun h => hk1 h.2)]
        clear hk1
        go_enter Tryz.func79, Tryz.ntmps79
        go_wp2_with fail
        go_ret2
        exact ⟨rfl, Below.refl _ _⟩
    · have b1 : ((m : Int) != 1) = true := by simpa using (by omega : (m : Int) ≠ 1)
      rw [if_neg (fun h => h1 h.1)]
      clear h1 hk ht hao
      go_enter Tryz.func79, Tryz.ntmps79
      go_wp2_with fail
      go_ret2
      exact ⟨rfl, Below.refl _ _⟩
  · have e : m = 0 := by omega
    subst e
    rw [if_neg (by omega)]
    clear hao hk h0
    go_enter Tryz.func79, Tryz.ntmps79
    go_wp2_with fail
    go_ret2
    exact ⟨rfl, Below.refl _ _⟩

set_option maxHeartbeats 1000000 in
theorem numx_minus (w : World) (g m c : Nat) (k : Int) (t : ByteArray) (hm : m ≤ 1000000) (hmc : m + 1 ≤ c) (hc : w.cell? ⟨g, 0, none⟩ = some (.int .i64 23)) (hao : m = 1 → w.cell? ⟨g, 3, none⟩ = some (.int .i64 k) ∧ w.cell? ⟨g, 4, none⟩ = some (.string t) ∧ t.size ≤ 1000)
    (hE : Hid (ErrVar w)) (hS : Hid (SynVar w)) : Calls Tryz.prog 79 #[.slice (some ⟨g, 0, none⟩) (m + 1) c] w (NumE w (if m = 1 ∧ k = 1 then (pI t.data.toList).map fun v => wrap64 (-v) else none)) := by
  by_cases h1 : m = 1
  · obtain ⟨hc3, ht1, hts⟩ := hao h1
    subst h1
    have HTS : Hid _ := hts
    clear hts hao
    by_cases hk1 : k = 1
    · have bk1 : (k != 1) = false := by simpa using hk1
      rw [if_pos ⟨rfl, hk1⟩]
      clear hk1
      go_enter Tryz.func79, Tryz.ntmps79
      go_wp2_with fail
      refine (parse_ex t HTS.out _ hE.out hS.out).mono ?_
      rintro e w1 ⟨x, y, rfl, ⟨rfl, hp⟩ | ⟨⟨N, rfl⟩, hp⟩, hb⟩
      · have HB : Hid _ := hb
        have HP : Hid _ := hp
        clear hb hp
        go_wp2_with fail
        go_ret2
        unfold NumE
        rw [HP.out]
        exact ⟨rfl, HB.out⟩
      · have HB : Hid _ := hb
        have HP : Hid _ := hp
        clear hb hp
        go_wp2_with fail
        go_ret2
        unfold NumE
        rw [HP.out]
        exact ⟨rfl, HB.out⟩
    · have bk1 : (k != 1) = true := by simpa using hk1
      rw [if_neg (fun h => hk1 h.2)]
      clear hk1
      go_enter Tryz.func79, Tryz.ntmps79
      go_wp2_with fail
      go_ret2
      exact ⟨rfl, Below.refl _ _⟩
  · have b1 : ((m : Int) != 1) = true := by simpa using (by omega : (m : Int) ≠ 1)
    rw [if_neg (fun h => h1 h.1)]
    clear h1 hao
    go_enter Tryz.func79, Tryz.ntmps79
    go_wp2_with fail
    all_goals
      go_ret2
      exact ⟨rfl, Below.refl _ _⟩

theorem numx_any (w : World) (v : Value) (ts : List Tk) (h : TL w v ts) (hs : ts.length ≤ 1000000) (hx : ∀ t ∈ ts, t.x.length ≤ 1000) (hE : ErrVar w) (hS : SynVar w) :
    Calls Tryz.prog 79 #[v] w (NumE w (numT ts)) := by
  have sz : ∀ t ∈ ts, (⟨t.x.toArray⟩ : ByteArray).size ≤ 1000 := fun t ht => by have := hx t ht; simp only [ByteArray.size, List.size_toArray]; exact this
  rcases h with ⟨rfl, rfl⟩ | ⟨g, cap, rfl, hcap, hc⟩
  · exact numx_plain w none 0 0 0 ⟨#[]⟩ (by omega) (by omega) (by omega) hE hS
  match ts, hcap, hc, sz, hs with
  | [], _, _, _, _ => exact numx_plain w _ 0 cap 0 ⟨#[]⟩ (by omega) (by omega) (by omega) hE hS
  | [t], hcap, hc, sz, hs =>
    have h0 := hc 0 t rfl
    by_cases hk : t.k = 23
    · rw [hk] at h0
      have := numx_minus w g 0 cap 0 ⟨#[]⟩ (by omega) hcap h0.1 (by omega) hE hS
      have e : numT [t] = if 0 = 1 ∧ (0 : Int) = 1 then (pI [] : Option Int).map fun v => wrap64 (-v) else none := by
        show (if t.k = 1 then _ else none) = _
        rw [if_neg (by omega), if_neg (by omega)]
      rw [e]; exact this
    · have := numx_plain w _ 1 cap t.k ⟨t.x.toArray⟩ hs hk (fun _ => ⟨g, rfl, h0.1, fun _ => ⟨h0.2.1, sz t (by simp)⟩⟩) hE hS
      have e : numT [t] = if 1 = 1 ∧ t.k = 1 then (pI t.x).map wrap64 else none := by unfold numT; simp
      rw [e]; exact this
  | t :: u :: r, hcap, hc, sz, hs =>
    have h0 := hc 0 t rfl
    have h1 := hc 1 u rfl
    by_cases hk : t.k = 23
    · rw [hk] at h0
      have := numx_minus w g (u :: r).length cap u.k ⟨u.x.toArray⟩ (by simp only [List.length_cons] at hs ⊢; omega) hcap h0.1 (fun _ => ⟨h1.1, h1.2.1, sz u (by simp)⟩) hE hS
      have e : numT (t :: u :: r) = if (u :: r).length = 1 ∧ u.k = 1 then (pI u.x).map fun v => wrap64 (-v) else none := by
        cases r with
        | nil => unfold numT; simp [hk]
        | cons a b => unfold numT; simp
      rw [e]; exact this
    · have := numx_plain w _ (t :: u :: r).length cap t.k ⟨t.x.toArray⟩ hs hk (fun _ => ⟨g, rfl, h0.1, fun h => absurd h (by simp)⟩) hE hS
      have e : numT (t :: u :: r) = if (t :: u :: r).length = 1 ∧ t.k = 1 then (pI t.x).map wrap64 else none := by
        cases r with
        | nil => unfold numT; simp [hk]
        | cons a b => unfold numT; simp
      rw [e]; exact this
end Go.Proofs.YtiocnfambeochaaGreatDoor

/- A token in its plain form: 'withoutNoughts', 'plainToken'. -/
namespace Go.Proofs.YtiocnfambeochaaGreatDoor
open Go.RowKit

def nzT (l : List UInt8) : List UInt8 := if l.dropWhile (· == 48) = [] then [48] else l.dropWhile (· == 48)
def ptk (t : Tk) : List UInt8 :=
  if t.k = 1 then nzT t.x else if t.k ∈ [16, 17, 18, 19, 20, 21, 22] then 32 :: (t.x ++ [32]) else if t.k = 14 then t.x ++ [32] else t.x

theorem str_eq {a b : ByteArray} (h : a.data.toList = b.data.toList) : Ending.returned (.string a) = .returned (.string b) := by
  obtain ⟨⟨a⟩⟩ := a
  obtain ⟨⟨b⟩⟩ := b
  simp only at h
  rw [h]

theorem trim_any (s : ByteArray) (w : World) : Calls Tryz.prog 126 #[.string s, .string ⟨#[48]⟩] w fun e w' => e = .returned (.string ⟨(s.data.toList.dropWhile (· == 48)).toArray⟩) ∧ w' = w :=
  Tryz.strings_TrimLeft_one s 48 (by decide) w

set_option maxHeartbeats 1000000 in
theorem noughts_any (s : ByteArray) (w : World) : Calls Tryz.prog 96 #[.string s] w fun e w' => e = .returned (.string ⟨(nzT s.data.toList).toArray⟩) ∧ w' = w := by
  have hn : Hid _ := show nzT s.data.toList = if s.data.toList.dropWhile (· == 48) = [] then [48] else s.data.toList.dropWhile (· == 48) from rfl
  obtain ⟨r, hr⟩ : ∃ r, s.data.toList.dropWhile (· == 48) = r := ⟨_, rfl⟩
  have HR : Hid _ := hr
  clear hr
  go_enter Tryz.func96, Tryz.ntmps96
  go_wp2_with fail
  refine (trim_any s _).mono ?_
  rintro e w1 ⟨rfl, rfl⟩
  rw [HR.out]
  cases r with
  | nil =>
    have HN : Hid (nzT s.data.toList = [48]) := by unfold Hid; rw [hn.out, HR.out, if_pos rfl]
    go_wp2_with fail
    go_ret
    rw [HN.out]
    exact ⟨rfl, rfl⟩
  | cons a r =>
    have HN : Hid (nzT s.data.toList = a :: r) := by unfold Hid; rw [hn.out, HR.out, if_neg (by simp)]
    go_wp2_with fail
    go_ret
    rw [HN.out]
    exact ⟨rfl, rfl⟩

set_option maxHeartbeats 1000000 in
theorem plainToken_any (t : Tk) (w : World) (hx : t.x.length ≤ 1000000) :
    Calls Tryz.prog 64 #[.agg #[.int .i64 t.k, .string ⟨t.x.toArray⟩, .int .i64 t.p]] w fun e w' => e = .returned (.string ⟨(ptk t).toArray⟩) ∧ Below w.heap.size w w' := by
  obtain ⟨k, x, p⟩ := t
  simp only at hx ⊢
  have HP : Hid (ptk ⟨k, x, p⟩ = if k = 1 then nzT x else if k ∈ [16, 17, 18, 19, 20, 21, 22] then 32 :: (x ++ [32]) else if k = 14 then x ++ [32] else x) := rfl
  generalize ptk ⟨k, x, p⟩ = out at *
  by_cases h1 : k = 1
  · have b1 : (k == 1) = true := by simpa using h1
    have HP2 : Hid (out = nzT x) := by unfold Hid; rw [HP.out, if_pos h1]
    clear HP h1
    go_enter Tryz.func64, Tryz.ntmps64
    go_wp2_with fail
    refine (noughts_any _ _).mono ?_
    rintro e w1 ⟨rfl, rfl⟩
    go_wp2_with fail
    go_ret
    rw [HP2.out]
    exact ⟨rfl, (Below.refl _ _).alloc (Nat.le_refl _) _⟩
  by_cases h2 : k ∈ [16, 17, 18, 19, 20, 21, 22]
  · have HP2 : Hid (out = 32 :: (x ++ [32])) := by unfold Hid; rw [HP.out, if_neg h1, if_pos h2]
    simp only [List.mem_cons, List.not_mem_nil, or_false] at h2
    clear HP h1
    rcases h2 with rfl | rfl | rfl | rfl | rfl | rfl | rfl
    all_goals
      go_enter Tryz.func64, Tryz.ntmps64
      go_wp2_with fail
      go_ret
      rw [HP2.out]
      refine ⟨?_, (Below.refl _ _).alloc (Nat.le_refl _) _⟩
      first | rfl | (refine str_eq ?_; simp)
  have b1 : (k == 1) = false := by simpa using h1
  simp only [List.mem_cons, List.not_mem_nil, or_false, not_or] at h2
  obtain ⟨a16, a17, a18, a19, a20, a21, a22⟩ := h2
  have b16 : (k == 16) = false := by simpa using a16
  have b17 : (k == 17) = false := by simpa using a17
  have b18 : (k == 18) = false := by simpa using a18
  have b19 : (k == 19) = false := by simpa using a19
  have b20 : (k == 20) = false := by simpa using a20
  have b21 : (k == 21) = false := by simpa using a21
  have b22 : (k == 22) = false := by simpa using a22
  have HP3 : Hid (out = if k = 14 then x ++ [32] else x) := by unfold Hid; rw [HP.out, if_neg h1, if_neg (by simp [a16, a17, a18, a19, a20, a21, a22])]
  clear HP h1 a16 a17 a18 a19 a20 a21 a22
  by_cases h14 : k = 14
  · have b14 : (k == 14) = true := by simpa using h14
    have HP2 : Hid (out = x ++ [32]) := by unfold Hid; rw [HP3.out, if_pos h14]
    clear HP3 h14
    go_enter Tryz.func64, Tryz.ntmps64
    go_wp2_with fail
    go_ret
    rw [HP2.out]
    refine ⟨?_, (Below.refl _ _).alloc (Nat.le_refl _) _⟩
    first | rfl | (refine str_eq ?_; simp)
  · have b14 : (k == 14) = false := by simpa using h14
    have HP2 : Hid (out = x) := by unfold Hid; rw [HP3.out, if_neg h14]
    clear HP3 h14
    go_enter Tryz.func64, Tryz.ntmps64
    go_wp2_with fail
    go_ret
    rw [HP2.out]
    refine ⟨?_, (Below.refl _ _).alloc (Nat.le_refl _) _⟩
    first | rfl | (refine str_eq ?_; simp)
end Go.Proofs.YtiocnfambeochaaGreatDoor

/- The library's Builder in this program: 'copyCheck', 'WriteString'. -/
namespace Go.Proofs.YtiocnfambeochaaGreatDoor
open Go.RowKit

theorem bSize : (Tryz.prog.info? 123).map (·.size) = some 2 := by kernel_rfl
theorem bLies : liesAt Tryz.prog Tryz.prog.depth 123 (2 / Tryz.prog.cellsOf 123) 0 123 1 = true := by kernel_rfl
theorem Tryz.info5 : (Tryz.prog.info? 5).map (fun i => (i.zero, i.size, i.bytes)) = some (some (.int .u8 0), 1, 1) := by kernel_rfl

set_option maxHeartbeats 1000000 in
set_option maxRecDepth 100000 in
theorem check_used (b : Nat) (w : World) (h0 : w.cell? ⟨b, 0, none⟩ = some (.pointer (some ⟨b, 0, none⟩))) :
    Calls Tryz.prog 76 #[.pointer (some ⟨b, 0, none⟩)] w fun e w' => e = .returned (.tuple #[]) ∧ w' = w := by
  obtain ⟨j, hj, _⟩ := Option.map_eq_some_iff.1 bSize
  go_enter Tryz.func76, Tryz.ntmps76
  go_wp2
  rw [Lib.run_neq_ptr_same w _ Tryz.underlying121 hj]
  go_wp2
  go_end0
  exact ⟨rfl, rfl⟩

set_option maxHeartbeats 1000000 in
set_option maxRecDepth 100000 in
theorem check_fresh (b : Nat) (w : World) (h0 : w.cell? ⟨b, 0, none⟩ = some (.pointer none)) (hsh : w.shape? b = some (123, 2)) (hfz : w.frozen? ⟨b, 0, none⟩ = false) :
    Calls Tryz.prog 76 #[.pointer (some ⟨b, 0, none⟩)] w fun e w' => e = .returned (.tuple #[]) ∧ w' = w.setCell ⟨b, 0, none⟩ (.pointer (some ⟨b, 0, none⟩)) := by
  obtain ⟨j, hj, hjs⟩ := Option.map_eq_some_iff.1 bSize
  go_enter Tryz.func76, Tryz.ntmps76
  go_wp2
  rw [Lib.run_to_unsafe w ⟨b, 0, none⟩ Tryz.underlying121 Tryz.underlying204 hj (by rw [hjs]; decide) hsh (Nat.zero_lt_succ 1)]
  simp only [Result.andThen]
  rw [Oper.upon_value]
  go_wp2
  rw [run_callFunc_extern Tryz.func106 (by kernel_rfl) (by kernel_rfl) (by kernel_rfl) (e := Extern.AbiNoEscape.same) (by kernel_rfl)]
  rw [Lib.run_noEscape]
  simp only [Result.andThen]
  rw [Oper.upon_value]
  go_wp2
  rw [Lib.run_from_unsafe w ⟨b, 0, none⟩ Tryz.underlying204 Tryz.underlying121 hj hsh bLies]
  simp only [Result.andThen]
  rw [Oper.upon_value]
  go_wp2
  go_end0
  exact ⟨rfl, rfl⟩

theorem check_bld (B b : Nat) (bs : List Value) (w : World) (h : Lib.IsBuilder 123 5 B b bs w) :
    Calls Tryz.prog 76 #[.pointer (some ⟨b, 0, none⟩)] w fun e w' => e = .returned (.tuple #[]) ∧ (Lib.BuilderAt 123 5 B b (.pointer (some ⟨b, 0, none⟩)) bs w' ∧ Below B w w') := by
  rcases h with h | h
  · refine (check_fresh b w h.cell0 h.shape h.frozen0).mono ?_
    rintro e w' ⟨rfl, rfl⟩
    exact ⟨rfl, h.used _, (Below.refl B w).setCell (p := ⟨b, 0, none⟩) h.1 _⟩
  · refine (check_used b w h.cell0).mono ?_
    rintro e w' ⟨rfl, rfl⟩
    exact ⟨rfl, h, Below.refl B _⟩

set_option maxHeartbeats 2000000 in
set_option maxRecDepth 100000 in
theorem write_any (B b : Nat) (bs : List Value) (s : ByteArray) (w : World) (h : Lib.IsBuilder 123 5 B b bs w) (hlen : bs.length + s.size ≤ 140737488355328) (hBw : B ≤ w.heap.size) :
    Calls Tryz.prog 52 #[.pointer (some ⟨b, 0, none⟩), .string s] w fun e w' => e = .returned (.tuple #[.int .i64 s.size, .nilIface]) ∧ (Lib.BuilderAt 123 5 B b (.pointer (some ⟨b, 0, none⟩)) (bs ++ Lib.strCells s) w' ∧ Below B w w') := by
  obtain ⟨i0, hi, hz0, hz1, hz2⟩ := info_parts Tryz.info5
  go_enter Tryz.func52, Tryz.ntmps52
  go_wp2_with fail
  refine (check_bld B b bs _ h).mono ?_
  rintro e w1 ⟨rfl, h1, hb1⟩
  obtain ⟨hB, v, hbk, hown, hne⟩ := h1
  have c0 : w1.cell? ⟨b, 0, none⟩ = some (.pointer (some ⟨b, 0, none⟩)) := by rw [Lib.cell_of_heap hbk]; rfl
  have c1 : w1.cell? ⟨b, 1, none⟩ = some v := by rw [Lib.cell_of_heap hbk]; rfl
  clear h
  go_wp2_with (at_builtin; refine Lib.wpList_append_own_string _ rfl _ _ 118 9 rfl B 5 i0 Tryz.underlying118 Tryz.underlying9 hi hz0 hz1 hz2 _ _ _ rfl hown s rfl ?c3 ?c4 ?c5 ?_)
  case c3 => unfold maxLen; omega
  case c4 => omega
  case c5 => have := hb1.size; omega
  intro v' w2 hown' hgrow _
  have hlt : b < w1.heap.size := lt_of_block hbk
  have hb2 : w2.heap[b]? = some (.cells #[.pointer (some ⟨b, 0, none⟩), v] 123 (0, 0)) := by
    rw [hgrow.block b hlt (fun e => hne e.symm)]
    exact hbk
  have d0 : w2.cell? ⟨b, 0, none⟩ = some (.pointer (some ⟨b, 0, none⟩)) := by rw [Lib.cell_of_heap hb2]; rfl
  have d1 : w2.cell? ⟨b, 1, none⟩ = some v := by rw [Lib.cell_of_heap hb2]; rfl
  have f1 : w2.frozen? ⟨b, 1, none⟩ = false := Lib.frozen_of_heap hb2 1
  obtain ⟨ao, n', cap, rfl⟩ : ∃ ao n' cap, v' = .slice ao n' cap := by
    rcases hown'.2 with ⟨hv, _⟩ | ⟨g, cap, cur, hv, _⟩
    · exact ⟨_, _, _, hv⟩
    · exact ⟨_, _, _, hv⟩
  go_wp2
  go_ret2
  refine ⟨rfl, ?_, ?_⟩
  · exact Lib.BuilderAt.put (T := 123) (e := 5) hB hb2 (bs' := bs ++ Lib.strCells s) (by simpa [Lib.strCells_length] using hown') (by decide)
  · exact (hb1.grown hgrow (by have := hb1.size; omega) (fun k hk => (hown.lt k hk).1)).setCell (p := ⟨b, 1, none⟩) hB _
end Go.Proofs.YtiocnfambeochaaGreatDoor

/- The program's plain form of a list of tokens: 'grammar.Plain'. -/
namespace Go.Proofs.YtiocnfambeochaaGreatDoor
open Go.RowKit

theorem bld_below {w w' : World} {B b : Nat} {p : Value} {bs : List Value} (h : Lib.BuilderAt 123 5 B b p bs w) (hb : Below w.heap.size w w') : Lib.BuilderAt 123 5 B b p bs w' := by
  have hl := h.lt
  obtain ⟨hB, v, hbk, hown, hne⟩ := h
  exact ⟨hB, v, by rw [hb.block b hl]; exact hbk, owns_below hown hb, hne⟩
theorem isb_below {w w' : World} {B b : Nat} {bs : List Value} (h : Lib.IsBuilder 123 5 B b bs w) (hb : Below w.heap.size w w') : Lib.IsBuilder 123 5 B b bs w' :=
  h.elim (fun x => .inl (bld_below x hb)) (fun x => .inr (bld_below x hb))

theorem size_list (l : List UInt8) : (⟨l.toArray⟩ : ByteArray).size = l.length := by simp [ByteArray.size]

theorem ptk_len (t : Tk) : (ptk t).length ≤ t.x.length + 2 := by
  have h1 : (nzT t.x).length ≤ t.x.length + 2 := by
    unfold nzT
    split
    · simp
    · have := (List.dropWhile_sublist (fun c : UInt8 => c == 48) (l := t.x)).length_le; omega
  unfold ptk
  split
  · exact h1
  · split
    · simp
    · split
      · simp
      · omega
theorem flat_len (ts : List Tk) (h : ∀ t ∈ ts, t.x.length ≤ 1000) : (ts.flatMap ptk).length ≤ ts.length * 1002 := by
  induction ts with
  | nil => simp
  | cons a r ih =>
    have h1 := ptk_len a
    have h2 := h a List.mem_cons_self
    have h3 := ih fun t ht => h t (List.mem_cons_of_mem _ ht)
    simp only [List.flatMap_cons, List.length_append, List.length_cons]
    omega

set_option maxHeartbeats 2000000 in
theorem plain_any (w : World) (v : Value) (ts : List Tk) (h : TL w v ts) (hs : ts.length ≤ 1000000) (hx : Hid (∀ t ∈ ts, t.x.length ≤ 1000)) :
    Calls Tryz.prog 42 #[v] w fun e w' => e = .returned (.string ⟨(ts.flatMap ptk).toArray⟩) ∧ Below w.heap.size w w' := by
  obtain ⟨ao, c, hv⟩ : ∃ ao c, v = .slice ao ts.length c := by
    rcases h with ⟨hv, hn0⟩ | ⟨g, cap, hv, _⟩
    · exact ⟨none, 0, by rw [hv, hn0]; rfl⟩
    · exact ⟨_, _, hv⟩
  subst hv
  have HT : Hid (TL w (.slice ao ts.length c) ts) := h
  clear h
  go_enter Tryz.func42, Tryz.ntmps42
  go_wp2_with fail
  go_loopw [8] (fun x wr => ∃ k : Nat, k ≤ ts.length ∧ x = .int .i64 k ∧ Hid (Lib.IsBuilder 123 5 w.heap.size w.heap.size (Lib.byteCells ((ts.take k).flatMap ptk)) wr) ∧ Hid (Below w.heap.size w wr)) (fun x _ => ts.length - (intOf x).toNat)
  case atStart =>
    refine ⟨0, by omega, rfl, ?_, (Below.refl _ _).alloc (Nat.le_refl _) _⟩
    exact Or.inl ⟨Nat.le_refl _, .slice none 0 0, heap_alloc_new w _, World.ownsRow_nil _ _ _ _, by simp [Value.ownBlock]⟩
  case round =>
    obtain ⟨k, hk, rfl, hbd, hb⟩ := hrel
    by_cases hlt : k < ts.length
    · obtain ⟨t, ht⟩ : ∃ t, ts[k]? = some t := ⟨_, List.getElem?_eq_getElem hlt⟩
      have hlti : (k : Int) < (ts.length : Int) := by omega
      obtain ⟨g, cap, hve, hcap, hcs⟩ : ∃ g cap, Value.slice ao ts.length c = .slice (some ⟨g, 0, none⟩) ts.length cap ∧ ts.length ≤ cap ∧ ∀ (j : Nat) (t : Tk), ts[j]? = some t →
          w.cell? ⟨g, j * 3, none⟩ = some (.int .i64 t.k) ∧ w.cell? ⟨g, j * 3 + 1, none⟩ = some (.string ⟨t.x.toArray⟩) ∧ w.cell? ⟨g, j * 3 + 2, none⟩ = some (.int .i64 t.p) := by
        rcases HT.out with ⟨_, hn⟩ | h
        · rw [hn] at hlt; simp at hlt
        · exact h
      obtain ⟨rfl, rfl⟩ : ao = some ⟨g, 0, none⟩ ∧ c = cap := by simpa using hve
      clear hve
      obtain ⟨c0, c1, c2⟩ := hcs k t ht
      have hgl : g < w.heap.size := World.block_lt_of_cell? w _ c0
      have d0 : wr.cell? ⟨g, k * 3, none⟩ = some (.int .i64 t.k) := (hb.out.cell (by exact hgl)).trans c0
      have d1 : wr.cell? ⟨g, k * 3 + 1, none⟩ = some (.string ⟨t.x.toArray⟩) := (hb.out.cell (by exact hgl)).trans c1
      have d2 : wr.cell? ⟨g, k * 3 + 2, none⟩ = some (.int .i64 t.p) := (hb.out.cell (by exact hgl)).trans c2
      have HTK : Hid _ := ht
      have hxl : Hid (t.x.length ≤ 1000) := hx.out t (List.mem_of_getElem? ht)
      clear c0 c1 c2 hcs ht
      go_wp2_with fail
      refine (plainToken_any t _ (by have := hxl.out; omega)).mono ?_
      rintro e w1 ⟨rfl, hb1⟩
      have hw1 : Below wr.heap.size wr w1 := ((Below.refl _ _).alloc (Nat.le_refl _) _).trans (hb1.mono (by simp))
      have HBD : Hid (Lib.IsBuilder 123 5 w.heap.size w.heap.size (Lib.byteCells ((ts.take k).flatMap ptk)) w1) := isb_below hbd.out hw1
      have HB1 : Hid (Below w.heap.size w w1) := hb.out.trans (hw1.mono hb.out.size)
      have hsum : Hid (((ts.take k).flatMap ptk).length + (ptk t).length ≤ 1003000000) := by
        have h1 := flat_len (ts.take k) fun u hu => hx.out u (List.mem_of_mem_take hu)
        have h2 := ptk_len t
        have h3 := hxl.out
        have h4 : (ts.take k).length ≤ 1000000 := by rw [List.length_take]; omega
        unfold Hid
        omega
      clear hb1 hw1 hbd
      go_wp2_with fail
      refine (write_any w.heap.size w.heap.size _ _ _ HBD.out (by rw [Lib.byteCells_length, size_list]; have := hsum.out; omega) HB1.out.size).mono ?_
      rintro e w2 ⟨rfl, hbd2, hb2⟩
      have HBD2 : Hid (Lib.IsBuilder 123 5 w.heap.size w.heap.size (Lib.byteCells ((ts.take (k + 1)).flatMap ptk)) w2) := by
        refine Or.inr ?_
        rw [List.take_add_one, HTK.out]
        simp only [Option.toList_some, List.flatMap_append, List.flatMap_cons, List.flatMap_nil, List.append_nil]
        rw [Lib.byteCells_append]
        exact hbd2
      have HB2 : Hid (Below w.heap.size w w2) := HB1.out.trans hb2
      clear hbd2 hb2
      go_wp2_with fail
      go_roundw
      case rel => exact ⟨k + 1, by omega, by go_num, HBD2, HB2⟩
      case measure => simp [intOf]; omega
    · have e : k = ts.length := by omega
      have hlti : ¬ (k : Int) < (ts.length : Int) := by omega
      have HBD : Hid (Lib.IsBuilder 123 5 w.heap.size w.heap.size (Lib.byteCells (ts.flatMap ptk)) wr) := by
        have := hbd.out
        rw [e, List.take_length] at this
        exact this
      clear hbd e
      go_wp2_with fail
      refine (Tryz.Builder_String_any w.heap.size w.heap.size _ _ HBD.out hb.out.size).mono ?_
      rintro e w2 ⟨rfl, hb2⟩
      go_wp2_with fail
      go_ret
      exact ⟨rfl, hb.out.trans hb2⟩
end Go.Proofs.YtiocnfambeochaaGreatDoor
