/- The program's 'Read': a formula's tokens, or its fault and place. -/
import Derived.Test.YtiocnfambeochaaGreatDoorPrsall
import Derived.Test.YtiocnfambeochaaGreatDoorChk
namespace Go.Proofs.YtiocnfambeochaaGreatDoor
open Go.RowKit

/-- A fault (0: none), its place, the tokens. -/
structure RD where
  e : Int
  p : Nat
  ts : List Tk
def rdP (n : Nat) (r : PR) : RD :=
  if r.ok = false ∨ r.i < r.ts.length then ⟨3, plcAt r.ts r.i n, []⟩
  else match chk r.ts.length r.ts with
    | some p => ⟨4, p, []⟩
    | none => ⟨0, 0, r.ts⟩
/-- As 'rd', of a text of any length. -/
def rdA (l : List UInt8) : RD :=
  match (scn l.length l 0).2 with
    | some p => ⟨2, p, []⟩
    | none => match prs (8 * (scn l.length l 0).1.length + 6) 0 (scn l.length l 0).1 0 0 with
      | none => ⟨3, 0, []⟩
      | some r => rdP l.length r
def rd (l : List UInt8) : RD := if 120 < l.length then ⟨1, 0, []⟩ else rdA l

theorem ownsRow_TL {w : World} {B : Nat} {v : Value} {ts : List Tk} (ho : w.ownsRow B 142 3 v ts.length (ts.flatMap tkCells)) : TL w v ts := by
  rcases ho.2 with ⟨hv, hn⟩ | ⟨g, cap, cur, hv, hg, hh, hnc, hcm, hcs, htake⟩
  · exact Or.inl ⟨hv, List.length_eq_zero_iff.1 hn⟩
  · refine Or.inr ⟨g, cap, hv, hnc, fun j t hj => ?_⟩
    rw [hv] at ho
    have hjl : j < ts.length := (List.getElem?_eq_some_iff.1 hj).1
    obtain ⟨f0, f1, f2⟩ := flat_get ts j t hj
    exact ⟨by rw [ho.cellAt (j * 3) (by omega)]; exact f0, by rw [ho.cellAt (j * 3 + 1) (by omega)]; exact f1, by rw [ho.cellAt (j * 3 + 2) (by omega)]; exact f2⟩

theorem scn_len : ∀ (n : Nat) (l : List UInt8) (p : Nat), (scn n l p).1.length ≤ l.length
  | 0, _, _ => by simp [scn]
  | _ + 1, [], _ => by simp [scn]
  | n + 1, c :: r, p => by
    unfold scn
    by_cases h1 : c = 32
    · rw [if_pos h1]; have := scn_len n r (p + 1); simp only [List.length_cons]; omega
    rw [if_neg h1]
    by_cases h2 : (tok1 (c :: r)).1 = 0
    · rw [if_pos h2]; simp
    rw [if_neg h2]
    have h3 := tok1_size (c :: r) h2
    have := scn_len n ((c :: r).drop (tok1 (c :: r)).2) (p + (tok1 (c :: r)).2)
    simp only [List.length_cons, List.length_drop] at this h3 ⊢
    omega

theorem owns_below2 {w w' : World} {base : Nat} {e : TypeId} {size : Nat} {v : Value} {n : Nat} {xs : List Value} (h : w.ownsRow base e size v n xs) (hb : Below w.heap.size w w') : w'.ownsRow base e size v n xs := by
  refine ⟨h.1, ?_⟩
  rcases h.2 with h2 | ⟨g, cap, cur, hv, hg, hh, r⟩
  · exact Or.inl h2
  · exact Or.inr ⟨g, cap, cur, hv, hg, by rw [hb.block g ((Array.getElem?_eq_some_iff.1 hh).1)]; exact hh, r⟩

set_option maxHeartbeats 2000000 in
theorem readAll_any (s : ByteArray) (w : World) (hE : Hid (ErrVar w)) (hs : s.size ≤ 100000) :
    Calls Tryz.prog 63 #[.string s] w fun e w' => Below w.heap.size w w' ∧ ∃ v, e = .returned (.tuple #[v, .int .i64 (rdA s.data.toList).e, .int .i64 (rdA s.data.toList).p]) ∧
      ((rdA s.data.toList).e ≠ 0 → v = .slice none 0 0) ∧ w'.ownsRow w.heap.size 142 3 v (rdA s.data.toList).ts.length ((rdA s.data.toList).ts.flatMap tkCells) := by
  have hlen := len_eq s
  have HR : Hid (rdA s.data.toList = match (scn s.size s.data.toList 0).2 with
    | some p => ⟨2, p, []⟩
    | none => match prs (8 * (scn s.size s.data.toList 0).1.length + 6) 0 (scn s.size s.data.toList 0).1 0 0 with
      | none => ⟨3, 0, []⟩
      | some r => rdP s.size r) := by unfold Hid rdA; rw [hlen]
  have HL : Hid _ := scn_len s.size s.data.toList 0
  rw [hlen] at HL
  clear hlen
  go_enter Tryz.func63, Tryz.ntmps63
  go_wp2_with fail
  refine (scan_any s _ (by omega) hE).mono ?_
  rintro e w1 ⟨hb1, ⟨hn, v, rfl, hown⟩ | ⟨p, hn, rfl⟩⟩
  · have HR2 := HR.out
    rw [hn] at HR2
    have hl := HL.out
    generalize (scn s.size s.data.toList 0).1 = ts at *
    simp only at HR2
    obtain ⟨r, hr, hfine⟩ := prs_fuel (8 * ts.length + 6) 0 ts 0 0 (by omega) (by have : rk 0 = 5 := rfl; omega)
    rw [hr] at HR2
    simp only at HR2
    obtain ⟨ao, c, hv⟩ : ∃ ao c, v = .slice ao ts.length c := by
      rcases hown.2 with ⟨hv, hn0⟩ | ⟨g, cap, cur, hv, _⟩
      · exact ⟨none, 0, by rw [hv, hn0]⟩
      · exact ⟨_, _, hv⟩
    subst hv
    have HRR : Hid _ := HR2
    have HPR : Hid _ := hr
    have HB1 : Hid _ := hb1
    have HO : Hid (w1.ownsRow w.heap.size 142 3 (.slice ao ts.length c) ts.length (ts.flatMap tkCells)) := hown
    have HSZ : Hid (w.heap.size ≤ w1.heap.size) := hb1.size
    have HPW : Hid (PW (w1.alloc (.cells #[.slice ao ts.length c, .int .i64 0, .int .i64 0] 194)) w.heap.size w1.heap.size (.slice ao ts.length c) ts 0 0) := by
      refine ⟨heap_alloc_new w1 _, HO.out.alloc _, HSZ.out, ?_, Nat.zero_le _, by omega, by omega⟩
      intro hcon
      have := (HO.out.lt _ hcon).2
      omega
    clear HR HR2 hr hb1 hn hown HL
    go_wp2_with fail
    refine (formula_any (8 * ts.length + 6) _ w.heap.size w1.heap.size _ ts 0 0 r HPW.out HPR.out).mono ?_
    rintro e w2 ⟨rfl, hb2, hp2⟩
    have HB2 : Hid (Below w.heap.size w w2) := (HB1.out.alloc HSZ.out _).trans hb2
    have HP2 : Hid _ := hp2
    have c1 := hp2.c1
    have HOW : Hid _ := hp2.own
    have hle := hp2.le
    obtain ⟨_, hf2, hf3⟩ := hfine
    clear hb2 hp2 HPW
    cases hok : r.ok
    · have HRR2 : Hid (rdA s.data.toList = ⟨3, plcAt r.ts r.i s.size, []⟩) := by unfold Hid; rw [HRR.out, rdP, if_pos (Or.inl hok)]
      clear HRR hok
      go_wp2_with fail
      refine (place_any _ w.heap.size w1.heap.size _ r.ts r.i r.d s.size HP2).mono ?_
      rintro e w3 ⟨rfl, m, rfl⟩
      go_wp2_with fail
      go_ret3
      rw [HRR2.out]
      exact ⟨below_drewN HB2.out m, _, rfl, fun _ => rfl, World.ownsRow_nil _ _ _ _⟩
    by_cases hin : r.i < r.ts.length
    · have HRR2 : Hid (rdA s.data.toList = ⟨3, plcAt r.ts r.i s.size, []⟩) := by unfold Hid; rw [HRR.out, rdP, if_pos (Or.inr hin)]
      have hini : (r.i : Int) < (ts.length : Int) := by omega
      clear HRR hok
      go_wp2_with fail
      refine (place_any _ w.heap.size w1.heap.size _ r.ts r.i r.d s.size HP2).mono ?_
      rintro e w3 ⟨rfl, m, rfl⟩
      go_wp2_with fail
      go_ret3
      rw [HRR2.out]
      exact ⟨below_drewN HB2.out m, _, rfl, fun _ => rfl, World.ownsRow_nil _ _ _ _⟩
    · have HRR2 : Hid (rdA s.data.toList = match chk r.ts.length r.ts with | some p => ⟨4, p, []⟩ | none => ⟨0, 0, r.ts⟩) := by
        unfold Hid; rw [HRR.out, rdP, if_neg (by simp [hok, hin])]
      have hini : ¬ (r.i : Int) < (ts.length : Int) := by omega
      clear HRR hok
      go_wp2_with fail
      refine (check_any _ _ r.ts (ownsRow_TL HOW.out) (by omega)).mono ?_
      rintro e w3 ⟨hb3, ⟨hck, rfl⟩ | ⟨p, hck, rfl⟩⟩
      all_goals have HB3 : Hid (Below w.heap.size w w3) := HB2.out.trans (hb3.mono HB2.out.size)
      all_goals have HOW3 : Hid _ := owns_below2 HOW.out hb3
      all_goals clear hb3
      · have HF : Hid (rdA s.data.toList = ⟨0, 0, r.ts⟩) := by unfold Hid; rw [HRR2.out, hck]
        clear HRR2 hck
        go_wp2_with fail
        go_ret3
        rw [HF.out]
        exact ⟨HB3.out, _, rfl, fun h => absurd rfl h, HOW3.out⟩
      · have HF : Hid (rdA s.data.toList = ⟨4, p, []⟩) := by unfold Hid; rw [HRR2.out, hck]
        clear HRR2 hck
        go_wp2_with fail
        go_ret3
        rw [HF.out]
        exact ⟨HB3.out, _, rfl, fun _ => rfl, World.ownsRow_nil _ _ _ _⟩
  · have HR2 : Hid (rdA s.data.toList = ⟨2, p, []⟩) := by unfold Hid; rw [HR.out, hn]
    clear HR hn
    go_wp2_with fail
    go_ret3
    rw [HR2.out]
    exact ⟨hb1, _, rfl, fun _ => rfl, World.ownsRow_nil _ _ _ _⟩

set_option maxHeartbeats 1000000 in
theorem read_any (s : ByteArray) (w : World) (hE : Hid (ErrVar w)) (hs : s.size ≤ maxLen) :
    Calls Tryz.prog 41 #[.string s] w fun e w' => Below w.heap.size w w' ∧ ∃ v, e = .returned (.tuple #[v, .int .i64 (rd s.data.toList).e, .int .i64 (rd s.data.toList).p]) ∧
      ((rd s.data.toList).e ≠ 0 → v = .slice none 0 0) ∧ w'.ownsRow w.heap.size 142 3 v (rd s.data.toList).ts.length ((rd s.data.toList).ts.flatMap tkCells) := by
  have hlen := len_eq s
  unfold maxLen at hs
  by_cases h120 : 120 < s.size
  · have HR : Hid (rd s.data.toList = ⟨1, 0, []⟩) := by unfold Hid rd; rw [if_pos (by omega)]
    clear hlen
    go_enter Tryz.func41, Tryz.ntmps41
    go_wp2_with fail
    go_ret3
    rw [HR.out]
    exact ⟨Below.refl _ _, _, rfl, fun _ => rfl, World.ownsRow_nil _ _ _ _⟩
  have HR : Hid (rd s.data.toList = rdA s.data.toList) := by unfold Hid rd; rw [if_neg (by omega)]
  clear hlen
  go_enter Tryz.func41, Tryz.ntmps41
  go_wp2_with fail
  refine (readAll_any s _ hE (by omega)).mono ?_
  rintro e w1 ⟨hb1, v, rfl, hv, hown⟩
  have HB : Hid _ := hb1
  have HV : Hid _ := hv
  have HO : Hid _ := hown
  clear hb1 hv hown
  go_wp2_with fail
  go_ret3
  rw [HR.out]
  exact ⟨HB.out, _, rfl, HV.out, HO.out⟩
end Go.Proofs.YtiocnfambeochaaGreatDoor
