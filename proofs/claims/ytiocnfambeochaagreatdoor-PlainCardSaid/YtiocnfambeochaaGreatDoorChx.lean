/- The sheet's own 'check', of any edit; Formula. -/
import Derived.Test.YtiocnfambeochaaGreatDoorNumX
import Derived.Test.YtiocnfambeochaaGreatDoorRep
import Derived.Test.YtiocnfambeochaaGreatDoorRng
import Derived.Test.YtiocnfambeochaaGreatDoorTop
import Derived.Test.YtiocnfambeochaaGreatDoorFeed
set_option linter.unusedVariables false
set_option linter.unusedSimpArgs false
namespace Go.Proofs.YtiocnfambeochaaGreatDoor
open Go.RowKit

theorem results_tmp4 {fn : Func} {t u v z : Tmp} (h : fn.results = #[.tmp t, .tmp u, .tmp v, .tmp z]) (tmps : Array Value) (P : Program) (w : World) :
    (results fn tmps).run P w = .ok (.tuple #[tmps.getD t undef, tmps.getD u undef, tmps.getD v undef, tmps.getD z undef]) w := by
  simp [results, h]
/-- What comes of an edit: its error, its place; or the cell and its text. -/
structure Ck where
  e : Int
  p : Nat
  c : Nat
  t : ByteArray
def ckN (bd : Nat → Int × Int) (c : Nat) (tx : ByteArray) : Ck :=
  match numT (rd tx.data.toList).ts with
  | some n => if n < (bd c).1 ∨ (bd c).2 < n then ⟨5, 0, 0, eB⟩ else ⟨0, 0, c, ⟨(plT tx.data.toList).toArray⟩⟩
  | none => ⟨0, 0, c, ⟨(plT tx.data.toList).toArray⟩⟩
def ckP (bd : Nat → Int × Int) (cl tx : ByteArray) : Ck :=
  match cellN cl.data.toList with
  | none => ⟨4, 0, 0, eB⟩
  | some c => if tx = eB then ⟨0, 0, c, eB⟩ else if (rd tx.data.toList).e ≠ 0 then ⟨(rd tx.data.toList).e, (rd tx.data.toList).p, 0, eB⟩ else ckN bd c tx
theorem rd_place (l : List UInt8) : (rd l).e = 0 → (rd l).p = 0 := by
  unfold rd
  split
  · simp
  · unfold rdA
    split
    · simp
    · split
      · simp
      · unfold rdP
        split
        · simp
        · split <;> simp
set_option maxHeartbeats 1000000 in
theorem refuses_w (w : World) (lo hi n : Int) : Calls Tryz.prog 80 #[.agg #[.int .i64 lo, .int .i64 hi], .int .i64 n] w fun e w' => e = .returned (.bool (decide (n < lo) || decide (hi < n))) ∧ Below w.heap.size w w' := by
  by_cases h1 : n < lo
  · go_enter Tryz.func80, Tryz.ntmps80
    go_wp2_with fail
    go_ret
    exact ⟨ret_bool (by simp [h1]), bl1 _ _⟩
  · by_cases h2 : hi < n
    · go_enter Tryz.func80, Tryz.ntmps80
      go_wp2_with fail
      go_ret
      exact ⟨ret_bool (by simp [h2]), bl1 _ _⟩
    · go_enter Tryz.func80, Tryz.ntmps80
      go_wp2_with fail
      go_ret
      exact ⟨ret_bool (by simp [h1, h2]), bl1 _ _⟩
theorem num_some {s : ByteArray} {c : Nat} (h : cellN s.data.toList = some c) (w : World) : Calls Tryz.prog 44 #[.string s] w fun e w' => e = .returned (.tuple #[.int .i64 c, .bool true]) ∧ ∃ n, w' = w.drewN n := by
  have := number_cell s w
  rw [cn_cellN, h] at this
  exact this
theorem num_none {s : ByteArray} (h : cellN s.data.toList = none) (w : World) : Calls Tryz.prog 44 #[.string s] w fun e w' => e = .returned (.tuple #[.int .i64 0, .bool false]) ∧ ∃ n, w' = w.drewN n := by
  have := number_cell s w
  rw [cn_cellN, h] at this
  exact this

section
variable {fs : Nat → ByteArray} {bd : Nat → Int × Int} {k : Kp}
set_option maxHeartbeats 1000000 in
theorem formula_some (W : World) (x : Nat) (h : SR W x fs bd k) (s : ByteArray) (c : Nat) (hs : cellN s.data.toList = some c) :
    Calls Tryz.prog 21 #[.pointer (some ⟨x, 0, none⟩), .string s] W fun e w' => e = .returned (.tuple #[.string (fs c), .int .i64 0]) ∧ Below W.heap.size W w' := by
  have hc := cellN_lt hs
  have H1 : Hid (W.cell? ⟨x, c, none⟩ = some (.string (fs c))) := h.fs c hc
  have HS : Hid _ := hs
  clear h hs
  go_enter Tryz.func21, Tryz.ntmps21
  go_wp2_with fail
  refine (num_some HS.out _).mono ?_
  rintro e w1 ⟨rfl, n, hw⟩
  have h2 : w1.cell? ⟨x, c, none⟩ = some (.string (fs c)) := by rw [hw]; exact H1.out
  have hb : Hid (Below W.heap.size W w1) := by unfold Hid; rw [hw]; exact below_drewN (Below.refl _ _) n
  clear hw H1
  go_wp2_with fail
  go_ret2
  exact ⟨rfl, hb.out⟩
set_option maxHeartbeats 1000000 in
theorem formula_none (W : World) (x : Nat) (s : ByteArray) (hs : cellN s.data.toList = none) :
    Calls Tryz.prog 21 #[.pointer (some ⟨x, 0, none⟩), .string s] W fun e w' => e = .returned (.tuple #[.string ⟨#[]⟩, .int .i64 4]) ∧ Below W.heap.size W w' := by
  have HS : Hid _ := hs
  clear hs
  go_enter Tryz.func21, Tryz.ntmps21
  go_wp2_with fail
  refine (num_none HS.out _).mono ?_
  rintro e w1 ⟨rfl, n, hw⟩
  have hb : Hid (Below W.heap.size W w1) := by unfold Hid; rw [hw]; exact below_drewN (Below.refl _ _) n
  clear hw
  go_wp2_with fail
  go_ret2
  exact ⟨rfl, hb.out⟩

set_option maxHeartbeats 2000000 in
theorem check_any' (W : World) (x : Nat) (cl tx : ByteArray) (hSR : Hid (SR W x fs bd k)) (hA : Hid (Amb W)) (hl : tx.size ≤ maxLen) :
    Calls Tryz.prog 56 #[.pointer (some ⟨x, 0, none⟩), .agg #[.string cl, .string tx]] W fun e w' => e = .returned (.tuple #[.int .i64 (ckP bd cl tx).c, .string (ckP bd cl tx).t, .int .i64 (ckP bd cl tx).e, .int .i64 (ckP bd cl tx).p]) ∧ Below W.heap.size W w' := by
  cases hcl : cellN cl.data.toList with
  | none =>
    have HF : Hid (ckP bd cl tx = ⟨4, 0, 0, eB⟩) := by unfold Hid ckP; rw [hcl]
    have HS : Hid _ := hcl
    clear hcl
    go_enter Tryz.func56, Tryz.ntmps56
    go_wp2_with fail
    refine (num_none HS.out _).mono ?_
    rintro e w1 ⟨rfl, n, hw⟩
    have HB1 : Hid (Below W.heap.size W w1) := by unfold Hid; rw [hw]; exact below_drewN (bl1 _ _) n
    clear hw
    go_wp2_with fail
    refine bodyPost_ret (results_tmp4 rfl _ _ _) rfl ?_
    rw [HF.out]
    exact ⟨rfl, HB1.out⟩
  | some c =>
    have hc := cellN_lt hcl
    have HS : Hid _ := hcl
    by_cases h0 : tx = eB
    · have HF : Hid (ckP bd cl tx = ⟨0, 0, c, eB⟩) := by unfold Hid ckP; rw [hcl]; simp only; rw [if_pos h0]
      clear hcl
      subst h0
      unfold eB
      go_enter Tryz.func56, Tryz.ntmps56
      go_wp2_with fail
      refine (num_some HS.out _).mono ?_
      rintro e w1 ⟨rfl, n, hw⟩
      have HB1 : Hid (Below W.heap.size W w1) := by unfold Hid; rw [hw]; exact below_drewN (bl1 _ _) n
      have hc1 : w1.cell? ⟨W.heap.size, 1, none⟩ = some (.string ⟨#[]⟩) := by
        rw [hw]
        show (W.alloc _).cell? _ = _
        rw [cell_of_row _ W.heap.size 1 _ 68 (0, 0) (heap_alloc_new W _)]
        rfl
      clear hw
      go_wp2_with fail
      refine bodyPost_ret (results_tmp4 rfl _ _ _) rfl ?_
      unfold eB at HF
      rw [HF.out]
      exact ⟨rfl, HB1.out⟩
    · have hse : tx.toList.isEmpty = false := by
        rw [← decide_eq_emptyBytes]
        exact decide_eq_false h0
      have HF : Hid (ckP bd cl tx = if (rd tx.data.toList).e ≠ 0 then ⟨(rd tx.data.toList).e, (rd tx.data.toList).p, 0, eB⟩ else ckN bd c tx) := by unfold Hid ckP; rw [hcl]; simp only; rw [if_neg h0]
      have HN : Hid (ckN bd c tx = match numT (rd tx.data.toList).ts with
        | some n => if n < (bd c).1 ∨ (bd c).2 < n then ⟨5, 0, 0, eB⟩ else ⟨0, 0, c, ⟨(plT tx.data.toList).toArray⟩⟩
        | none => ⟨0, 0, c, ⟨(plT tx.data.toList).toArray⟩⟩) := rfl
      have HSm : Hid _ := rd_small tx.data.toList
      have HL : Hid _ := rd_len tx.data.toList
      have HP2 : Hid (plT tx.data.toList = if (rd tx.data.toList).e = 0 then (rd tx.data.toList).ts.flatMap ptk else []) := rfl
      have HML : Hid (tx.size ≤ maxLen) := hl
      clear hcl h0 hl
      go_enter Tryz.func56, Tryz.ntmps56
      go_wp2_with fail
      refine (num_some HS.out _).mono ?_
      rintro e w1 ⟨rfl, n, hw⟩
      have HB1 : Hid (Below W.heap.size W w1) := by unfold Hid; rw [hw]; exact below_drewN (bl1 _ _) n
      have hc1 : w1.cell? ⟨W.heap.size, 1, none⟩ = some (.string tx) := by
        rw [hw]
        show (W.alloc _).cell? _ = _
        rw [cell_of_row _ W.heap.size 1 _ 68 (0, 0) (heap_alloc_new W _)]
        rfl
      clear hw
      have HE1 : Hid (ErrVar w1) := (hA.out.below HB1.out).1
      go_wp2_with fail
      refine (read_any tx _ HE1 HML.out).mono ?_
      rintro e w2 ⟨hb2, v, rfl, _, hown⟩
      obtain ⟨⟨e, p, ts⟩, hR⟩ : ∃ R, rd tx.data.toList = R := ⟨_, rfl⟩
      have HZ : Hid ((rd tx.data.toList).e = 0 → (rd tx.data.toList).p = 0) := rd_place _
      rw [hR] at hown HSm HL HP2 HF HN HZ ⊢
      clear hR
      simp only at hown HSm HL HP2 HF HN HZ ⊢
      have HB2 : Hid (Below W.heap.size W w2) := HB1.out.trans (hb2.mono HB1.out.size)
      by_cases he : e = 0
      · subst he
        have hz := HZ.out rfl
        subst hz
        have HP3 : Hid (plT tx.data.toList = ts.flatMap ptk) := by unfold Hid; rw [HP2.out, if_pos rfl]
        have HF2 : Hid (ckP bd cl tx = match numT ts with
          | some n => if n < (bd c).1 ∨ (bd c).2 < n then ⟨5, 0, 0, eB⟩ else ⟨0, 0, c, ⟨(plT tx.data.toList).toArray⟩⟩
          | none => ⟨0, 0, c, ⟨(plT tx.data.toList).toArray⟩⟩) := by unfold Hid; rw [HF.out, if_neg (by simp), HN.out]
        obtain ⟨ao, cp, hv⟩ : ∃ ao cp, v = .slice ao ts.length cp := by
          rcases hown.2 with ⟨hv, hn0⟩ | ⟨g, cap, cur, hv, _⟩
          · exact ⟨none, 0, by rw [hv, hn0]⟩
          · exact ⟨_, _, hv⟩
        subst hv
        have HO : Hid (w2.ownsRow w1.heap.size 142 3 (.slice ao ts.length cp) ts.length (ts.flatMap tkCells)) := hown
        have HA2 : Hid (Amb w2) := hA.out.below HB2.out
        clear hown hb2 HZ HF HN HP2
        go_wp2_with fail
        refine (numx_any _ _ ts (ownsRow_TL HO.out) (by have := HL.out; omega) (fun t h => Nat.le_trans (HSm.out t h) (by omega)) HA2.out.1 HA2.out.2.2).mono ?_
        rintro e w3 ⟨rfl, hb3⟩
        have HB3 : Hid (Below W.heap.size W w3) := HB2.out.trans (hb3.mono HB2.out.size)
        have HO3 : Hid (w3.ownsRow w1.heap.size 142 3 (.slice ao ts.length cp) ts.length (ts.flatMap tkCells)) := owns_below HO.out hb3
        obtain ⟨hlo, hhi⟩ := (hSR.out.below HB3.out).bnd c hc
        clear hb3 HO HA2
        cases hn : numT ts with
        | none =>
          have HF3 : Hid (ckP bd cl tx = ⟨0, 0, c, ⟨(ts.flatMap ptk).toArray⟩⟩) := by unfold Hid; rw [HF2.out, hn, HP3.out]
          clear hlo hhi hn HF2
          go_wp2_with fail
          refine (plain_any _ _ ts (ownsRow_TL HO3.out) (by have := HL.out; omega) (fun t h => Nat.le_trans (HSm.out t h) (by omega))).mono ?_
          rintro e w4 ⟨rfl, hb4⟩
          have HB4 : Hid (Below W.heap.size W w4) := HB3.out.trans (hb4.mono HB3.out.size)
          clear hb4
          go_wp2_with fail
          refine bodyPost_ret (results_tmp4 rfl _ _ _) rfl ?_
          rw [HF3.out]
          exact ⟨rfl, HB4.out⟩
        | some q =>
          have HF3 : Hid (ckP bd cl tx = if q < (bd c).1 ∨ (bd c).2 < q then ⟨5, 0, 0, eB⟩ else ⟨0, 0, c, ⟨(ts.flatMap ptk).toArray⟩⟩) := by unfold Hid; rw [HF2.out, hn, HP3.out]
          clear hn HF2
          go_wp2_with fail
          refine (refuses_w _ (bd c).1 (bd c).2 q).mono ?_
          rintro e w4 ⟨rfl, hb4⟩
          have HB4 : Hid (Below W.heap.size W w4) := HB3.out.trans (hb4.mono HB3.out.size)
          have HO4 : Hid (w4.ownsRow w1.heap.size 142 3 (.slice ao ts.length cp) ts.length (ts.flatMap tkCells)) := owns_below HO3.out hb4
          clear hb4 hlo hhi HO3
          by_cases hr : q < (bd c).1 ∨ (bd c).2 < q
          · have hd : (decide (q < (bd c).1) || decide ((bd c).2 < q)) = true := by simpa using hr
            have HF4 : Hid (ckP bd cl tx = ⟨5, 0, 0, eB⟩) := by unfold Hid; rw [HF3.out, if_pos hr]
            rw [hd]
            clear hr HF3 hd
            go_wp2_with fail
            refine bodyPost_ret (results_tmp4 rfl _ _ _) rfl ?_
            rw [HF4.out]
            exact ⟨rfl, HB4.out⟩
          · have hd : (decide (q < (bd c).1) || decide ((bd c).2 < q)) = false := by simpa using hr
            have HF4 : Hid (ckP bd cl tx = ⟨0, 0, c, ⟨(ts.flatMap ptk).toArray⟩⟩) := by unfold Hid; rw [HF3.out, if_neg hr]
            rw [hd]
            clear hr HF3 hd
            go_wp2_with fail
            refine (plain_any _ _ ts (ownsRow_TL HO4.out) (by have := HL.out; omega) (fun t h => Nat.le_trans (HSm.out t h) (by omega))).mono ?_
            rintro e w5 ⟨rfl, hb5⟩
            have HB5 : Hid (Below W.heap.size W w5) := HB4.out.trans (hb5.mono HB4.out.size)
            clear hb5
            go_wp2_with fail
            refine bodyPost_ret (results_tmp4 rfl _ _ _) rfl ?_
            rw [HF4.out]
            exact ⟨rfl, HB5.out⟩
      · have he' : (e != 0) = true := by simpa using he
        have HF2 : Hid (ckP bd cl tx = ⟨e, p, 0, eB⟩) := by unfold Hid; rw [HF.out, if_pos he]
        clear he hown hb2 HZ HF HN HP2
        go_wp2_with fail
        refine bodyPost_ret (results_tmp4 rfl _ _ _) rfl ?_
        rw [HF2.out]
        exact ⟨rfl, HB2.out⟩
end
end Go.Proofs.YtiocnfambeochaaGreatDoor
