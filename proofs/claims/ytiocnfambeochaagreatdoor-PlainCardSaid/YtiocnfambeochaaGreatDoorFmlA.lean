/- The statement's own 'formula', one deeper: the ways that do not leave an order open. -/
import Derived.Test.YtiocnfambeochaaGreatDoorFml
namespace Go.Proofs.YtiocnfambeochaaGreatDoor
open Go.RowKit

theorem rnd_app (a b : List Tk) : rnd (a ++ b) = rnd a ++ rnd b := by unfold rnd; rw [List.flatMap_append]
theorem rnd_cons (t : Tk) (r : List Tk) : rnd (t :: r) = ptk t ++ rnd r := rfl
theorem rnd_nil : rnd [] = [] := rfl

def Ln : Nat → Nat
  | 0 => 22
  | d + 1 => 3 * Ln d + 24
theorem Ln_ge (d : Nat) : 22 ≤ Ln d := by cases d with | zero => exact Nat.le_refl _ | succ d => show 22 ≤ 3 * Ln d + 24; omega

theorem gen_if (deep : Nat) (fd : List UInt8) (h : (nx 9 fd).1 = 0) :
    rnd (gen (deep + 1) fd).1 = [105, 102, 40] ++ rnd (gen deep (nx 9 fd).2).1 ++ [44, 32] ++ rnd (gen deep (gen deep (nx 9 fd).2).2).1 ++ [44, 32] ++ rnd (gen deep (gen deep (gen deep (nx 9 fd).2).2).2).1 ++ [41] ∧
    (gen (deep + 1) fd).2 = (gen deep (gen deep (gen deep (nx 9 fd).2).2).2).2 := by
  rw [gen, if_pos h]
  refine ⟨?_, rfl⟩
  simp only [rnd_cons, rnd_app, rnd_nil]
  have e1 : ptk tIf = [105, 102] := by decide
  have e2 : ptk tOpen = [40] := by decide
  have e3 : ptk tComma = [44, 32] := by decide
  have e4 : ptk tClose = [41] := by decide
  rw [e1, e2, e3, e4]
  simp
theorem gen_bad (deep : Nat) (fd : List UInt8) (h : (nx 9 fd).1 = 2) : rnd (gen (deep + 1) fd).1 = [98, 97, 100, 40] ++ rnd (gen deep (nx 9 fd).2).1 ++ [41] ∧ (gen (deep + 1) fd).2 = (gen deep (nx 9 fd).2).2 := by
  rw [gen, if_neg (by omega), if_neg (by omega), if_pos h]
  refine ⟨?_, rfl⟩
  simp only [rnd_cons, rnd_app, rnd_nil]
  have e1 : ptk tBad = [98, 97, 100] := by decide
  have e2 : ptk tOpen = [40] := by decide
  have e4 : ptk tClose = [41] := by decide
  rw [e1, e2, e4]
  simp
def ats3 (j q : Nat) : List UInt8 := if j = 0 then [34, 65, 34, 32, 38, 32, 34, 49, 34] else if j = 1 then [34, 66, 50, 34] else nmT q
theorem gen_at (deep : Nat) (fd : List UInt8) (h : (nx 9 fd).1 = 1) : rnd (gen (deep + 1) fd).1 = [97, 116, 40] ++ ats3 (nx 3 (nx 12 (nx 9 fd).2).2).1 (nx 12 (nx 9 fd).2).1 ++ [41] ∧ (gen (deep + 1) fd).2 = (nx 3 (nx 12 (nx 9 fd).2).2).2 := by
  rw [gen, if_neg (by omega), if_pos h]
  refine ⟨?_, rfl⟩
  simp only [rnd_cons, rnd_app, rnd_nil]
  have e1 : ptk tAt = [97, 116] := by decide
  have e2 : ptk tOpen = [40] := by decide
  have e4 : ptk tClose = [41] := by decide
  have e5 : ∀ j q, rnd (ats j q) = ats3 j q := by
    intro j q
    unfold ats ats3
    split
    · decide
    split
    · decide
    · simp [rnd, ptk, tCell, tk, nmT]
  rw [e1, e2, e4, e5]
  simp
def rng (n : Nat) : List UInt8 := if n = 0 then [115, 117, 109, 40, 65, 49, 58, 67, 50, 41] else if n = 1 then [99, 111, 117, 110, 116, 40, 65, 49, 58, 70, 49, 41] else if n = 2 then [115, 117, 109, 40, 66, 50, 58, 66, 50, 41] else [99, 111, 117, 110, 116, 40, 68, 49, 58, 70, 50, 41]
theorem gen_rng (deep : Nat) (fd : List UInt8) (h : (nx 9 fd).1 = 3) : rnd (gen (deep + 1) fd).1 = rng (nx 4 (nx 9 fd).2).1 ∧ (gen (deep + 1) fd).2 = (nx 4 (nx 9 fd).2).2 := by
  rw [gen, if_neg (by omega), if_neg (by omega), if_neg (by omega), if_pos h]
  refine ⟨?_, rfl⟩
  simp only
  unfold ranges rng
  split
  · decide
  split
  · decide
  split
  · decide
  · decide
def cmp2 (n : Nat) : List UInt8 := if n = 0 then [60] else [61]
theorem gen_cmp (deep : Nat) (fd : List UInt8) (h : (nx 9 fd).1 = 4) : rnd (gen (deep + 1) fd).1 = [40] ++ rnd (gen deep (nx 9 fd).2).1 ++ [32] ++ cmp2 (nx 2 (gen deep (nx 9 fd).2).2).1 ++ [32] ++ rnd (gen deep (nx 2 (gen deep (nx 9 fd).2).2).2).1 ++ [41] ∧
    (gen (deep + 1) fd).2 = (gen deep (nx 2 (gen deep (nx 9 fd).2).2).2).2 := by
  rw [gen, if_neg (by omega), if_neg (by omega), if_neg (by omega), if_neg (by omega), if_pos h]
  refine ⟨?_, rfl⟩
  simp only [rnd_cons, rnd_app, rnd_nil]
  have e2 : ptk tOpen = [40] := by decide
  have e4 : ptk tClose = [41] := by decide
  have e5 : ∀ j, ptk (tCmp j) = [32] ++ cmp2 j ++ [32] := by
    intro j
    unfold tCmp cmp2
    split <;> decide
  rw [e2, e4, e5]
  simp
theorem gen_neg (deep : Nat) (fd : List UInt8) (h : (nx 9 fd).1 = 5) : rnd (gen (deep + 1) fd).1 = [45] ++ nmT (nx 12 (nx 9 fd).2).1 ∧ (gen (deep + 1) fd).2 = (nx 12 (nx 9 fd).2).2 := by
  rw [gen, if_neg (by omega), if_neg (by omega), if_neg (by omega), if_neg (by omega), if_neg (by omega), if_pos h]
  refine ⟨?_, rfl⟩
  simp only [rnd_cons, rnd_nil]
  have e1 : ptk tNeg = [45] := by decide
  rw [e1]
  simp [ptk, tCell, tk, nmT]
def op5 (n : Nat) : List UInt8 := if n = 0 then [43] else if n = 1 then [45] else if n = 2 then [42] else if n = 3 then [47] else [38]
theorem gen_op (deep : Nat) (fd : List UInt8) (h : 5 < (nx 9 fd).1) : rnd (gen (deep + 1) fd).1 = [40] ++ rnd (gen deep (nx 9 fd).2).1 ++ [41, 32] ++ op5 (nx 5 (gen deep (nx 9 fd).2).2).1 ++ [32, 40] ++ rnd (gen deep (nx 5 (gen deep (nx 9 fd).2).2).2).1 ++ [41] ∧
    (gen (deep + 1) fd).2 = (gen deep (nx 5 (gen deep (nx 9 fd).2).2).2).2 := by
  rw [gen, if_neg (by omega), if_neg (by omega), if_neg (by omega), if_neg (by omega), if_neg (by omega), if_neg (by omega)]
  refine ⟨?_, rfl⟩
  simp only [rnd_cons, rnd_app, rnd_nil]
  have e2 : ptk tOpen = [40] := by decide
  have e4 : ptk tClose = [41] := by decide
  have e5 : ∀ j, ptk (tOp j) = [32] ++ op5 j ++ [32] := by
    intro j
    unfold tOp op5
    repeat' split
    all_goals decide
  rw [e2, e4, e5]
  simp

theorem ats3_len (j q : Nat) : (ats3 j q).length ≤ 9 := by
  unfold ats3
  repeat' split
  all_goals simp [nmT]
theorem rng_len (n : Nat) : (rng n).length ≤ 12 := by
  unfold rng
  repeat' split
  all_goals simp
theorem op5_len (n : Nat) : (op5 n).length = 1 := by
  unfold op5
  repeat' split
  all_goals rfl
theorem gen_len : ∀ (deep : Nat) (fd : List UInt8), (rnd (gen deep fd).1).length ≤ Ln deep
  | 0, fd => by
    show _ ≤ 22
    by_cases h0 : (nx 6 fd).1 = 0
    · rw [(gen0_num fd h0).1]
      have hl := nx_lt 200 (by omega) (nx 6 fd).2
      by_cases h1 : (nx 200 (nx 6 fd).2).1 < 10
      · rw [dec1 _ h1]; simp
      by_cases h2 : (nx 200 (nx 6 fd).2).1 < 100
      · rw [dec2 _ (by omega) h2]; simp
      · rw [dec3 _ (by omega) (by omega)]; simp
    by_cases h1 : (nx 6 fd).1 = 1
    · rw [(gen0_text fd h1).1]; have := (texts_ok (nx 6 (nx 6 fd).2).1).2; simp only [List.length_cons, List.length_append, List.length_nil]; omega
    by_cases h2 : (nx 6 fd).1 = 2
    · rw [(gen0_word fd h2).1]
      unfold word3
      repeat' split
      all_goals simp
    · rw [(gen0_cell fd h0 h1 h2).1]; simp [nmT]
  | deep + 1, fd => by
    have ih := gen_len deep
    have hL := Ln_ge deep
    have hl := nx_lt 9 (by omega) fd
    show _ ≤ 3 * Ln deep + 24
    by_cases h0 : (nx 9 fd).1 = 0
    · rw [(gen_if deep fd h0).1]
      have a := ih (nx 9 fd).2
      have b := ih (gen deep (nx 9 fd).2).2
      have c := ih (gen deep (gen deep (nx 9 fd).2).2).2
      simp only [List.length_append, List.length_cons, List.length_nil]; omega
    by_cases h1 : (nx 9 fd).1 = 1
    · rw [(gen_at deep fd h1).1]
      have := ats3_len (nx 3 (nx 12 (nx 9 fd).2).2).1 (nx 12 (nx 9 fd).2).1
      simp only [List.length_append, List.length_cons, List.length_nil]; omega
    by_cases h2 : (nx 9 fd).1 = 2
    · rw [(gen_bad deep fd h2).1]; have a := ih (nx 9 fd).2; simp only [List.length_append, List.length_cons, List.length_nil]; omega
    by_cases h3 : (nx 9 fd).1 = 3
    · rw [(gen_rng deep fd h3).1]
      have := rng_len (nx 4 (nx 9 fd).2).1
      omega
    by_cases h4 : (nx 9 fd).1 = 4
    · rw [(gen_cmp deep fd h4).1]
      have a := ih (nx 9 fd).2
      have b := ih (nx 2 (gen deep (nx 9 fd).2).2).2
      have : ∀ n, (cmp2 n).length = 1 := by intro n; unfold cmp2; split <;> rfl
      simp only [List.length_append, List.length_cons, List.length_nil, this]; omega
    by_cases h5 : (nx 9 fd).1 = 5
    · rw [(gen_neg deep fd h5).1]; simp only [List.length_append, List.length_cons, List.length_nil, nmT]; omega
    · rw [(gen_op deep fd (by omega)).1]
      have a := ih (nx 9 fd).2
      have b := ih (nx 5 (gen deep (nx 9 fd).2).2).2
      simp only [List.length_append, List.length_cons, List.length_nil, op5_len]; omega

theorem Ln_small {d : Nat} (h : d ≤ 3) : Ln d ≤ 5000 := by
  rcases (show d = 0 ∨ d = 1 ∨ d = 2 ∨ d = 3 by omega) with rfl | rfl | rfl | rfl <;> decide

/-- One way of 'formula' at this depth. -/
def FmlQ (deep q : Nat) : Prop := ∀ (w0 w : World) (fb : Nat) (fd : List UInt8), Amb w0 → Below w0.heap.size w0 w → FD w w0.heap.size fb fd → (nx 9 fd).1 = q →
  Calls Tryz.prog 16 #[.pointer (some ⟨fb, 0, none⟩), .int .i64 (deep + 1 : Nat)] w fun e w' => e = .returned (.string ⟨(rnd (gen (deep + 1) fd).1).toArray⟩) ∧ w.grownBy w' (some fb) ∧ FD w' w0.heap.size fb (gen (deep + 1) fd).2

set_option maxHeartbeats 2000000 in
set_option maxRecDepth 100000 in
theorem fml_if (deep : Nat) (hd : deep ≤ 3) (hs : Fml deep) : FmlQ deep 0 := by
  intro w0 w fb fd hA hw0 hF hq
  have HG : Hid _ := gen_if deep fd hq
  have HA : Hid (Amb w0) := hA
  have HW : Hid _ := hw0
  have HF : Hid _ := hF
  have HQ : Hid _ := hq
  have hda : ((deep : Int) + 1 == 0) = false := by simpa using (by omega : (deep : Int) + 1 ≠ 0)
  clear hA hw0 hF hq
  go_enter Tryz.func16, Tryz.ntmps16
  go_wp2_with fail
  refine (next_any 9 (by omega) (by omega) _ w0.heap.size fb fd HF).mono ?_
  rintro e w1 ⟨rfl, hb1, hf1⟩
  have HF1 : Hid _ := hf1
  have HB1 : Hid (w.grownBy w1 (some fb)) := hb1
  have HW1 : Hid (Below w0.heap.size w0 w1) := below_gb HW.out hb1 HF.out.size HF.out.low
  clear hf1 hb1
  rw [HQ.out]
  go_wp2_with fail
  refine (hs w0 _ fb _ HA.out HW1.out HF1.out).mono ?_
  rintro e w2 ⟨rfl, hb2, hf2⟩
  have HF2 : Hid _ := hf2
  have HB2 : Hid (w.grownBy w2 (some fb)) := gb_trans HB1.out hb2
  have HW2 : Hid (Below w0.heap.size w0 w2) := below_gb HW1.out hb2 HF1.out.size HF1.out.low
  obtain ⟨A2, hA2⟩ : ∃ A, rnd (gen deep (nx 9 fd).2).1 = A := ⟨_, rfl⟩
  have hlen2 : A2.length ≤ 5000 := by rw [← hA2]; exact Nat.le_trans (gen_len deep _) (Ln_small hd)
  have HA2 : Hid _ := hA2
  rw [hA2]
  clear hb2 hf2 hA2
  go_wp2_with fail
  refine (hs w0 _ fb _ HA.out HW2.out HF2.out).mono ?_
  rintro e w3 ⟨rfl, hb3, hf3⟩
  have HF3 : Hid _ := hf3
  have HB3 : Hid (w.grownBy w3 (some fb)) := gb_trans HB2.out hb3
  have HW3 : Hid (Below w0.heap.size w0 w3) := below_gb HW2.out hb3 HF2.out.size HF2.out.low
  obtain ⟨A3, hA3⟩ : ∃ A, rnd (gen deep (gen deep (nx 9 fd).2).2).1 = A := ⟨_, rfl⟩
  have hlen3 : A3.length ≤ 5000 := by rw [← hA3]; exact Nat.le_trans (gen_len deep _) (Ln_small hd)
  have HA3 : Hid _ := hA3
  rw [hA3]
  clear hb3 hf3 hA3
  go_wp2_with fail
  refine (hs w0 _ fb _ HA.out HW3.out HF3.out).mono ?_
  rintro e w4 ⟨rfl, hb4, hf4⟩
  have HF4 : Hid _ := hf4
  have HB4 : Hid (w.grownBy w4 (some fb)) := gb_trans HB3.out hb4
  have HW4 : Hid (Below w0.heap.size w0 w4) := below_gb HW3.out hb4 HF3.out.size HF3.out.low
  obtain ⟨A4, hA4⟩ : ∃ A, rnd (gen deep (gen deep (gen deep (nx 9 fd).2).2).2).1 = A := ⟨_, rfl⟩
  have hlen4 : A4.length ≤ 5000 := by rw [← hA4]; exact Nat.le_trans (gen_len deep _) (Ln_small hd)
  have HA4 : Hid _ := hA4
  rw [hA4]
  clear hb4 hf4 hA4
  go_wp2_with fail
  go_ret
  rw [HG.out.1, HG.out.2, HA2.out, HA3.out, HA4.out]
  exact ⟨str_eq (by simp), HB4.out, HF4.out⟩

set_option maxHeartbeats 2000000 in
set_option maxRecDepth 100000 in
theorem fml_bad (deep : Nat) (hd : deep ≤ 3) (hs : Fml deep) : FmlQ deep 2 := by
  intro w0 w fb fd hA hw0 hF hq
  have HG : Hid _ := gen_bad deep fd hq
  have HA : Hid (Amb w0) := hA
  have HW : Hid _ := hw0
  have HF : Hid _ := hF
  have HQ : Hid _ := hq
  have hda : ((deep : Int) + 1 == 0) = false := by simpa using (by omega : (deep : Int) + 1 ≠ 0)
  clear hA hw0 hF hq
  go_enter Tryz.func16, Tryz.ntmps16
  go_wp2_with fail
  refine (next_any 9 (by omega) (by omega) _ w0.heap.size fb fd HF).mono ?_
  rintro e w1 ⟨rfl, hb1, hf1⟩
  have HF1 : Hid _ := hf1
  have HB1 : Hid (w.grownBy w1 (some fb)) := hb1
  have HW1 : Hid (Below w0.heap.size w0 w1) := below_gb HW.out hb1 HF.out.size HF.out.low
  clear hf1 hb1
  rw [HQ.out]
  go_wp2_with fail
  refine (hs w0 _ fb _ HA.out HW1.out HF1.out).mono ?_
  rintro e w2 ⟨rfl, hb2, hf2⟩
  have HF2 : Hid _ := hf2
  have HB2 : Hid (w.grownBy w2 (some fb)) := gb_trans HB1.out hb2
  have HW2 : Hid (Below w0.heap.size w0 w2) := below_gb HW1.out hb2 HF1.out.size HF1.out.low
  obtain ⟨A2, hA2⟩ : ∃ A, rnd (gen deep (nx 9 fd).2).1 = A := ⟨_, rfl⟩
  have hlen2 : A2.length ≤ 5000 := by rw [← hA2]; exact Nat.le_trans (gen_len deep _) (Ln_small hd)
  have HA2 : Hid _ := hA2
  rw [hA2]
  clear hb2 hf2 hA2
  go_wp2_with fail
  go_ret
  rw [HG.out.1, HG.out.2, HA2.out]
  exact ⟨str_eq (by simp), HB2.out, HF2.out⟩

set_option maxHeartbeats 2000000 in
set_option maxRecDepth 100000 in
theorem fml_neg (deep : Nat) (hd : deep ≤ 3) : FmlQ deep 5 := by
  intro w0 w fb fd hA hw0 hF hq
  have HG : Hid _ := gen_neg deep fd hq
  have HA : Hid (Amb w0) := hA
  have HW : Hid _ := hw0
  have HF : Hid _ := hF
  have HQ : Hid _ := hq
  have hda : ((deep : Int) + 1 == 0) = false := by simpa using (by omega : (deep : Int) + 1 ≠ 0)
  clear hA hw0 hF hq
  go_enter Tryz.func16, Tryz.ntmps16
  go_wp2_with fail
  refine (next_any 9 (by omega) (by omega) _ w0.heap.size fb fd HF).mono ?_
  rintro e w1 ⟨rfl, hb1, hf1⟩
  have HF1 : Hid _ := hf1
  have HB1 : Hid (w.grownBy w1 (some fb)) := hb1
  have HW1 : Hid (Below w0.heap.size w0 w1) := below_gb HW.out hb1 HF.out.size HF.out.low
  clear hf1 hb1
  rw [HQ.out]
  go_wp2_with fail
  refine (few_any _ w0.heap.size fb _ HF1).mono ?_
  rintro e w2 ⟨rfl, hb2, hf2⟩
  go_wp2_with fail
  go_ret
  rw [HG.out.1, HG.out.2]
  exact ⟨str_eq (by simp [nmT]), gb_trans HB1.out hb2, hf2⟩

set_option maxHeartbeats 2000000 in
set_option maxRecDepth 100000 in
theorem fml_rng (deep : Nat) (hd : deep ≤ 3) : FmlQ deep 3 := by
  intro w0 w fb fd hA hw0 hF hq
  have HG : Hid _ := gen_rng deep fd hq
  have HA : Hid (Amb w0) := hA
  have HW : Hid _ := hw0
  have HF : Hid _ := hF
  have HQ : Hid _ := hq
  have hda : ((deep : Int) + 1 == 0) = false := by simpa using (by omega : (deep : Int) + 1 ≠ 0)
  clear hA hw0 hF hq
  go_enter Tryz.func16, Tryz.ntmps16
  go_wp2_with fail
  refine (next_any 9 (by omega) (by omega) _ w0.heap.size fb fd HF).mono ?_
  rintro e w1 ⟨rfl, hb1, hf1⟩
  have HF1 : Hid _ := hf1
  have HB1 : Hid (w.grownBy w1 (some fb)) := hb1
  have HW1 : Hid (Below w0.heap.size w0 w1) := below_gb HW.out hb1 HF.out.size HF.out.low
  clear hf1 hb1
  rw [HQ.out]
  have hl2 := nx_lt 4 (by omega) (nx 9 fd).2
  have HF1a : Hid (FD (w1.alloc (.cells #[Value.string ⟨#[115, 117, 109, 40, 65, 49, 58, 67, 50, 41]⟩, .string ⟨#[99, 111, 117, 110, 116, 40, 65, 49, 58, 70, 49, 41]⟩, .string ⟨#[115, 117, 109, 40, 66, 50, 58, 66, 50, 41]⟩, .string ⟨#[99, 111, 117, 110, 116, 40, 68, 49, 58, 70, 50, 41]⟩] 9)) w0.heap.size fb (nx 9 fd).2) := HF1.out.below ((Below.refl _ _).alloc (Nat.le_refl _) _)
  go_wp2_with fail
  refine (next_any 4 (by omega) (by omega) _ w0.heap.size fb _ HF1a).mono ?_
  rintro e w2 ⟨rfl, hb2, hf2⟩
  have hne : some w1.heap.size ≠ some fb := by intro e; have := HF1.out.lt; cases e; omega
  have hblk : w2.heap[w1.heap.size]? = some (.cells #[Value.string ⟨#[115, 117, 109, 40, 65, 49, 58, 67, 50, 41]⟩, .string ⟨#[99, 111, 117, 110, 116, 40, 65, 49, 58, 70, 49, 41]⟩, .string ⟨#[115, 117, 109, 40, 66, 50, 58, 66, 50, 41]⟩, .string ⟨#[99, 111, 117, 110, 116, 40, 68, 49, 58, 70, 50, 41]⟩] 9 (0, 0)) := by
    rw [hb2.block w1.heap.size (by simp) hne]; exact heap_alloc_new w1 _
  have HF2 : Hid _ := hf2
  have HB2 : Hid (w.grownBy w2 (some fb)) := gb_trans HB1.out (gb_trans (gb_below ((Below.refl _ _).alloc (Nat.le_refl _) _)) hb2)
  have HW2 : Hid (Below w0.heap.size w0 w2) := below_gb (HW1.out.alloc HF1.out.size _) hb2 HF1a.out.size HF1a.out.low
  obtain ⟨j, hj⟩ : ∃ j, (nx 4 (nx 9 fd).2).1 = j := ⟨_, rfl⟩
  have HJ : Hid _ := hj
  have hcell : ∀ (k : Nat) (u : Value), #[Value.string ⟨#[115, 117, 109, 40, 65, 49, 58, 67, 50, 41]⟩, .string ⟨#[99, 111, 117, 110, 116, 40, 65, 49, 58, 70, 49, 41]⟩, .string ⟨#[115, 117, 109, 40, 66, 50, 58, 66, 50, 41]⟩, .string ⟨#[99, 111, 117, 110, 116, 40, 68, 49, 58, 70, 50, 41]⟩][k]? = some u → w2.cell? ⟨w1.heap.size, k, none⟩ = some u := fun k u h => by
    simp [World.cell?, hblk, h]
  have HC : Hid _ := hcell
  rw [hj] at hl2 ⊢
  clear hb2 hf2 hblk hj hcell hne
  rcases (show j = 0 ∨ j = 1 ∨ j = 2 ∨ j = 3 by omega) with rfl | rfl | rfl | rfl
  · have c := HC.out 0 _ rfl
    go_wp2_with fail
    go_ret
    rw [HG.out.1, HG.out.2, HJ.out]
    exact ⟨str_eq (by simp [rng]), HB2.out, HF2.out⟩
  · have c := HC.out 1 _ rfl
    go_wp2_with fail
    go_ret
    rw [HG.out.1, HG.out.2, HJ.out]
    exact ⟨str_eq (by simp [rng]), HB2.out, HF2.out⟩
  · have c := HC.out 2 _ rfl
    go_wp2_with fail
    go_ret
    rw [HG.out.1, HG.out.2, HJ.out]
    exact ⟨str_eq (by simp [rng]), HB2.out, HF2.out⟩
  · have c := HC.out 3 _ rfl
    go_wp2_with fail
    go_ret
    rw [HG.out.1, HG.out.2, HJ.out]
    exact ⟨str_eq (by simp [rng]), HB2.out, HF2.out⟩

set_option maxHeartbeats 2000000 in
set_option maxRecDepth 100000 in
theorem fml_at (deep : Nat) (hd : deep ≤ 3) : FmlQ deep 1 := by
  intro w0 w fb fd hA hw0 hF hq
  have HG : Hid _ := gen_at deep fd hq
  have HA : Hid (Amb w0) := hA
  have HW : Hid _ := hw0
  have HF : Hid _ := hF
  have HQ : Hid _ := hq
  have hda : ((deep : Int) + 1 == 0) = false := by simpa using (by omega : (deep : Int) + 1 ≠ 0)
  clear hA hw0 hF hq
  go_enter Tryz.func16, Tryz.ntmps16
  go_wp2_with fail
  refine (next_any 9 (by omega) (by omega) _ w0.heap.size fb fd HF).mono ?_
  rintro e w1 ⟨rfl, hb1, hf1⟩
  have HF1 : Hid _ := hf1
  have HB1 : Hid (w.grownBy w1 (some fb)) := hb1
  have HW1 : Hid (Below w0.heap.size w0 w1) := below_gb HW.out hb1 HF.out.size HF.out.low
  clear hf1 hb1
  rw [HQ.out]
  go_wp2_with fail
  refine (few_any _ w0.heap.size fb _ HF1).mono ?_
  rintro e w2 ⟨rfl, hb2, hf2⟩
  have HF2 : Hid _ := hf2
  have HB2 : Hid (w.grownBy w2 (some fb)) := gb_trans HB1.out hb2
  have HW2 : Hid (Below w0.heap.size w0 w2) := below_gb HW1.out hb2 HF1.out.size HF1.out.low
  obtain ⟨N, hN⟩ : ∃ N, nmT (nx 12 (nx 9 fd).2).1 = N := ⟨_, rfl⟩
  have hNl : N.length = 2 := by rw [← hN]; rfl
  have HN : Hid _ := hN
  rw [hN]
  clear hb2 hf2 hN
  have hl3 := nx_lt 3 (by omega) (nx 12 (nx 9 fd).2).2
  have HF2a : Hid (FD (w2.alloc (.cells #[Value.string ⟨#[34, 65, 34, 32, 38, 32, 34, 49, 34]⟩, .string ⟨#[34, 66, 50, 34]⟩, .string ⟨N.toArray⟩] 9)) w0.heap.size fb (nx 12 (nx 9 fd).2).2) := HF2.out.below ((Below.refl _ _).alloc (Nat.le_refl _) _)
  go_wp2_with fail
  refine (next_any 3 (by omega) (by omega) _ w0.heap.size fb _ HF2a).mono ?_
  rintro e w3 ⟨rfl, hb3, hf3⟩
  have hne : some w2.heap.size ≠ some fb := by intro e; have := HF2.out.lt; cases e; omega
  have hblk : w3.heap[w2.heap.size]? = some (.cells #[Value.string ⟨#[34, 65, 34, 32, 38, 32, 34, 49, 34]⟩, .string ⟨#[34, 66, 50, 34]⟩, .string ⟨N.toArray⟩] 9 (0, 0)) := by
    rw [hb3.block w2.heap.size (by simp) hne]; exact heap_alloc_new w2 _
  have HF3 : Hid _ := hf3
  have HB3 : Hid (w.grownBy w3 (some fb)) := gb_trans HB2.out (gb_trans (gb_below ((Below.refl _ _).alloc (Nat.le_refl _) _)) hb3)
  have HW3 : Hid (Below w0.heap.size w0 w3) := below_gb (HW2.out.alloc HF2.out.size _) hb3 HF2a.out.size HF2a.out.low
  obtain ⟨j, hj⟩ : ∃ j, (nx 3 (nx 12 (nx 9 fd).2).2).1 = j := ⟨_, rfl⟩
  have HJ : Hid _ := hj
  have hcell : ∀ (k : Nat) (u : Value), #[Value.string ⟨#[34, 65, 34, 32, 38, 32, 34, 49, 34]⟩, .string ⟨#[34, 66, 50, 34]⟩, .string ⟨N.toArray⟩][k]? = some u → w3.cell? ⟨w2.heap.size, k, none⟩ = some u := fun k u h => by
    simp [World.cell?, hblk, h]
  have HC : Hid _ := hcell
  rw [hj] at hl3 ⊢
  clear hb3 hf3 hblk hj hcell hne
  rcases (show j = 0 ∨ j = 1 ∨ j = 2 by omega) with rfl | rfl | rfl
  · have c := HC.out 0 _ rfl
    go_wp2_with fail
    go_ret
    rw [HG.out.1, HG.out.2, HJ.out]
    exact ⟨str_eq (by simp [ats3]), HB3.out, HF3.out⟩
  · have c := HC.out 1 _ rfl
    go_wp2_with fail
    go_ret
    rw [HG.out.1, HG.out.2, HJ.out]
    exact ⟨str_eq (by simp [ats3]), HB3.out, HF3.out⟩
  · have c := HC.out 2 _ rfl
    go_wp2_with fail
    go_ret
    rw [HG.out.1, HG.out.2, HJ.out, ats3, if_neg (by decide), if_neg (by decide), HN.out]
    exact ⟨str_eq (by simp), HB3.out, HF3.out⟩
end Go.Proofs.YtiocnfambeochaaGreatDoor
