/- The program's parser: 'take' at written-out kinds, 'negations', 'place'. -/
import Derived.Test.YtiocnfambeochaaGreatDoorPars
import Derived.RegionTactic
import Derived.BigRegion
namespace Go.Proofs.YtiocnfambeochaaGreatDoor
open Go.RowKit

theorem PW.size {w : World} {B pb : Nat} {v : Value} {ts : List Tk} {i d : Nat} (h : PW w B pb v ts i d) : B ≤ w.heap.size := Nat.le_of_lt (Nat.lt_of_le_of_lt h.low h.lt)

theorem take1 (q : Int) (hq : q ≠ 0) (w : World) (B pb : Nat) (v : Value) (ts : List Tk) (i d : Nat) (h : Hid (PW w B pb v ts i d)) :
    Calls Tryz.prog 123 #[.pointer (some ⟨pb, 0, none⟩), .slice (some ⟨w.heap.size, 0, none⟩) 1 1] (w.alloc (.cells #[.int .i64 q] 140)) fun e w' => e = .returned (.bool (tkB [q] (kindAt ts i))) ∧ Below B w w' ∧
      PW w' B pb v ts (tkI [q] (kindAt ts i) i) d := by
  refine (take_any (w.alloc (.cells #[.int .i64 q] 140)) B pb v ts i d w.heap.size [q] (h.out.alloc _) ?_ (by simp) (by unfold Hid; simpa using fun e => hq e.symm)).mono ?_
  · intro j u hj
    match j, hj with
    | 0, hj => simp at hj; subst hj; simp
    | j + 1, hj => simp at hj
  · rintro e w' ⟨rfl, hb, hp⟩
    exact ⟨rfl, ((Below.refl _ _).alloc h.out.size _).trans hb, hp⟩
theorem take2 (q r : Int) (hq : q ≠ 0) (hr : r ≠ 0) (w : World) (B pb : Nat) (v : Value) (ts : List Tk) (i d : Nat) (h : Hid (PW w B pb v ts i d)) :
    Calls Tryz.prog 123 #[.pointer (some ⟨pb, 0, none⟩), .slice (some ⟨w.heap.size, 0, none⟩) 2 2] (w.alloc (.cells #[.int .i64 q, .int .i64 r] 140)) fun e w' => e = .returned (.bool (tkB [q, r] (kindAt ts i))) ∧ Below B w w' ∧
      PW w' B pb v ts (tkI [q, r] (kindAt ts i) i) d := by
  refine (take_any (w.alloc (.cells #[.int .i64 q, .int .i64 r] 140)) B pb v ts i d w.heap.size [q, r] (h.out.alloc _) ?_ (by simp) (by unfold Hid; simp only [List.mem_cons, List.not_mem_nil, or_false]; omega)).mono ?_
  · intro j u hj
    match j, hj with
    | 0, hj => simp at hj; subst hj; simp
    | 1, hj => simp at hj; subst hj; simp
    | j + 2, hj => simp at hj
  · rintro e w' ⟨rfl, hb, hp⟩
    exact ⟨rfl, ((Below.refl _ _).alloc h.out.size _).trans hb, hp⟩
theorem take3 (q r t : Int) (hq : q ≠ 0) (hr : r ≠ 0) (ht : t ≠ 0) (w : World) (B pb : Nat) (v : Value) (ts : List Tk) (i d : Nat) (h : Hid (PW w B pb v ts i d)) :
    Calls Tryz.prog 123 #[.pointer (some ⟨pb, 0, none⟩), .slice (some ⟨w.heap.size, 0, none⟩) 3 3] (w.alloc (.cells #[.int .i64 q, .int .i64 r, .int .i64 t] 140)) fun e w' => e = .returned (.bool (tkB [q, r, t] (kindAt ts i))) ∧ Below B w w' ∧
      PW w' B pb v ts (tkI [q, r, t] (kindAt ts i) i) d := by
  refine (take_any (w.alloc (.cells #[.int .i64 q, .int .i64 r, .int .i64 t] 140)) B pb v ts i d w.heap.size [q, r, t] (h.out.alloc _) ?_ (by simp) (by unfold Hid; simp only [List.mem_cons, List.not_mem_nil, or_false]; omega)).mono ?_
  · intro j u hj
    match j, hj with
    | 0, hj => simp at hj; subst hj; simp
    | 1, hj => simp at hj; subst hj; simp
    | 2, hj => simp at hj; subst hj; simp
    | j + 3, hj => simp at hj
  · rintro e w' ⟨rfl, hb, hp⟩
    exact ⟨rfl, ((Below.refl _ _).alloc h.out.size _).trans hb, hp⟩

/-- The token there becomes a Negate. -/
def mark (ts : List Tk) (i : Nat) : List Tk := ts.modify i fun t => { t with k := 23 }
def ngs : Nat → List Tk → Nat → List Tk × Nat
  | 0, ts, i => (ts, i)
  | n + 1, ts, i => if kindAt ts i = 17 then ngs n (mark ts i) (i + 1) else (ts, i)

theorem mark_len (ts : List Tk) (i : Nat) : (mark ts i).length = ts.length := by simp [mark]
theorem flat_mark : ∀ (ts : List Tk) (i : Nat), i < ts.length → (mark ts i).flatMap tkCells = (ts.flatMap tkCells).set (i * 3) (.int .i64 23)
  | [], i, h => by simp at h
  | a :: r, 0, _ => by simp [mark, tkCells, List.modify_cons]
  | a :: r, i + 1, h => by
    have ih := flat_mark r i (by simpa using h)
    have e : mark (a :: r) (i + 1) = a :: mark r i := by simp [mark]
    rw [e, List.flatMap_cons, ih, List.flatMap_cons]
    rw [List.set_append_right _ _ (by simp [tkCells]; omega)]
    congr 2
    simp [tkCells]; omega

theorem PW.mark {w : World} {B pb : Nat} {v : Value} {ts : List Tk} {i d g cap : Nat} (h : PW w B pb v ts i d) (hv : v = .slice (some ⟨g, 0, none⟩) ts.length cap) (j : Nat) (hj : j < ts.length) :
    PW (w.setCell ⟨g, j * 3, none⟩ (.int .i64 23)) B pb v (YtiocnfambeochaaGreatDoor.mark ts j) i d := by
  have ho := h.own
  have ha := h.apart
  rw [hv] at ho ha
  have hs := (ho.stored (j * 3) (.int .i64 23)).1
  have hne : g ≠ pb := fun e => ha (by simp [Value.ownBlock, e])
  refine ⟨?_, ?_, h.low, h.apart, by rw [mark_len]; exact h.le, by rw [mark_len]; exact h.small, h.deep⟩
  · rw [Below.heap_setCell _ _ _ _ (fun e => hne e.symm)]; exact h.blk
  · rw [mark_len, flat_mark ts j hj, hv]; exact hs

theorem tkB_one (q k : Int) : tkB [q] k = (k == q) := by
  unfold tkB; rw [Bool.eq_iff_iff]; simp

set_option maxHeartbeats 1000000 in
theorem negations_any (w : World) (B pb : Nat) (v : Value) (ts : List Tk) (i d : Nat) (h : Hid (PW w B pb v ts i d)) :
    Calls Tryz.prog 209 #[.pointer (some ⟨pb, 0, none⟩)] w fun e w' => e = .returned (.tuple #[]) ∧ Below B w w' ∧ PW w' B pb v (ngs 8 ts i).1 (ngs 8 ts i).2 d := by
  go_enter Tryz.func209, Tryz.ntmps209
  go_wp2_with fail
  go_loopw [2] (fun x wr => ∃ (c : Nat) (ts' : List Tk) (i' : Nat), c ≤ 8 ∧ x = .int .i64 c ∧ Hid (PW wr B pb v ts' i' d) ∧ Hid (Below B w wr) ∧ Hid (ngs 8 ts i = ngs (8 - c) ts' i')) (fun x _ => 8 - (intOf x).toNat)
  case atStart => exact ⟨0, ts, i, by omega, rfl, h, Below.refl _ _, rfl⟩
  case round =>
    obtain ⟨c, ts', i', hc8, rfl, hpw, hb, hng⟩ := hrel
    by_cases hlt : c < 8
    · obtain ⟨c', hcc⟩ : ∃ c', 8 - c = c' + 1 := ⟨7 - c, by omega⟩
      have HC : Hid _ := hcc
      clear hcc
      by_cases hk : kindAt ts' i' = 17
      · have hil := kindAt_lt (ts := ts') (i := i') (by rw [hk]; decide)
        have hB : Hid (tkB [17] (kindAt ts' i') = true) := by unfold Hid; rw [tkB_one]; simpa using hk
        have hI : Hid (tkI [17] (kindAt ts' i') i' = i' + 1) := by unfold Hid tkI; rw [if_pos (by simpa using hk)]
        have HK : Hid _ := hk
        clear hk
        go_wp2_with (go_at_call 123; refine (take1 17 (by decide) _ B pb v ts' i' d hpw).mono ?_; rintro e w1 ⟨rfl, hb1, hpw1⟩; rw [hB.out]; rw [hI.out] at hpw1)
        have hlist := hpw1.list
        have hle1 := hpw1.le
        have hsm := hpw1.small
        rcases hlist with ⟨_, hnil⟩ | ⟨g, cap, hv, hg, hcap, hcs⟩
        · rw [hnil] at hil; simp at hil
        have c0 : w1.cell? ⟨pb, 0, none⟩ = some (.slice (some ⟨g, 0, none⟩) ts'.length cap) := by rw [← hv]; exact hpw1.c0
        have c1 : w1.cell? ⟨pb, 1, none⟩ = some (.int .i64 ((i' : Int) + 1)) := hpw1.c1
        obtain ⟨t, ht⟩ : ∃ t, ts'[i']? = some t := ⟨_, List.getElem?_eq_getElem hil⟩
        have k0 := (hcs i' t ht).1
        have hfz : w1.frozen? ⟨g, i' * 3, none⟩ = false := by
          have ho := hpw1.own
          rw [hv] at ho
          exact ho.frozenAt _
        have hlti : (i' : Int) < (ts'.length : Int) := by omega
        have HV : Hid _ := hv
        have HP : Hid _ := hpw1
        have HB1 : Hid _ := hb1
        clear hv hcs ht hpw1 hb1 hle1
        go_region
        go_wp2_with fail
        go_roundw
        case rel =>
          refine ⟨c + 1, YtiocnfambeochaaGreatDoor.mark ts' i', i' + 1, by omega, by go_num, ?_, ?_, ?_⟩
          · exact (HP.out.mark HV.out i' hil).of_heap rfl
          · exact ((hb.out.trans HB1.out).setCell hg _).drew
          · unfold Hid
            rw [hng.out, HC.out, ngs, if_pos HK.out]
            have : 8 - (c + 1) = c' := by have := HC.out; omega
            rw [this]
        case measure => simp [intOf]; omega
      · have hB : Hid (tkB [17] (kindAt ts' i') = false) := by unfold Hid; rw [tkB_one]; simpa using hk
        have hI : Hid (tkI [17] (kindAt ts' i') i' = i') := by unfold Hid tkI; rw [if_neg (by simpa using hk)]
        have HK : Hid _ := hk
        clear hk
        go_wp2_with (go_at_call 123; refine (take1 17 (by decide) _ B pb v ts' i' d hpw).mono ?_; rintro e w1 ⟨rfl, hb1, hpw1⟩; rw [hB.out]; rw [hI.out] at hpw1)
        refine bodyPost_ret (v := .tuple #[]) (by simp [results, Tryz.results209, go_sem]) rfl ?_
        rw [hng.out, HC.out, ngs, if_neg HK.out]
        exact ⟨rfl, hb.out.trans hb1, hpw1⟩
    · go_wp2_with fail
      go_end0
      have : 8 - c = 0 := by omega
      rw [hng.out, this, ngs]
      exact ⟨rfl, hb.out, hpw.out⟩
end Go.Proofs.YtiocnfambeochaaGreatDoor
