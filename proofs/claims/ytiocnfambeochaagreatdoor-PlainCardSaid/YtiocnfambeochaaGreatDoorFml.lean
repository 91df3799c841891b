/- The statement's own 'formula': out of raw bytes it writes what 'gen' says. -/
import Derived.Test.YtiocnfambeochaaGreatDoorFeed
namespace Go.Proofs.YtiocnfambeochaaGreatDoor
open Go.RowKit

def rnd (g : List Tk) : List UInt8 := g.flatMap ptk

/-- 'formula' at this depth writes what 'gen' says. -/
def Fml (deep : Nat) : Prop := ∀ (w0 w : World) (fb : Nat) (fd : List UInt8), Amb w0 → Below w0.heap.size w0 w → FD w w0.heap.size fb fd →
  Calls Tryz.prog 16 #[.pointer (some ⟨fb, 0, none⟩), .int .i64 deep] w fun e w' => e = .returned (.string ⟨(rnd (gen deep fd).1).toArray⟩) ∧ w.grownBy w' (some fb) ∧ FD w' w0.heap.size fb (gen deep fd).2

theorem amb_at {w0 w : World} (h : Amb w0) (hb : Below w0.heap.size w0 w) : Amb w := h.below hb

theorem gen0_num (fd : List UInt8) (h : (nx 6 fd).1 = 0) : rnd (gen 0 fd).1 = Lib.decDigits (nx 200 (nx 6 fd).2).1 ∧ (gen 0 fd).2 = (nx 200 (nx 6 fd).2).2 := by
  unfold gen
  rw [if_pos h]
  refine ⟨?_, rfl⟩
  have := (dec_ok (nx 200 (nx 6 fd).2).1 (nx_lt 200 (by omega) _)).2
  simp [rnd, ptk, tNum, tk, this]
theorem gen0_text (fd : List UInt8) (h : (nx 6 fd).1 = 1) : rnd (gen 0 fd).1 = 34 :: (texts (nx 6 (nx 6 fd).2).1 ++ [34]) ∧ (gen 0 fd).2 = (nx 6 (nx 6 fd).2).2 := by
  unfold gen
  rw [if_neg (by omega), if_pos h]
  exact ⟨by simp [rnd, ptk, tText, tk], rfl⟩
def word3 (n : Nat) : List UInt8 := if n = 0 then [116, 114, 117, 101] else if n = 1 then [102, 97, 108, 115, 101] else [57, 50, 50, 51, 51, 55, 50, 48, 51, 54, 56, 53, 52, 55, 55, 53, 56, 48, 55]
theorem gen0_word (fd : List UInt8) (h : (nx 6 fd).1 = 2) : rnd (gen 0 fd).1 = word3 (nx 3 (nx 6 fd).2).1 ∧ (gen 0 fd).2 = (nx 3 (nx 6 fd).2).2 := by
  unfold gen
  rw [if_neg (by omega), if_neg (by omega), if_pos h]
  refine ⟨?_, rfl⟩
  simp only [rnd, List.flatMap_cons, List.flatMap_nil, List.append_nil, word3]
  by_cases h0 : (nx 3 (nx 6 fd).2).1 = 0
  · rw [if_pos h0, if_pos h0]; decide
  rw [if_neg h0, if_neg h0]
  by_cases h1 : (nx 3 (nx 6 fd).2).1 = 1
  · rw [if_pos h1, if_pos h1]; decide
  rw [if_neg h1, if_neg h1]; decide
theorem gen0_cell (fd : List UInt8) (h0 : (nx 6 fd).1 ≠ 0) (h1 : (nx 6 fd).1 ≠ 1) (h2 : (nx 6 fd).1 ≠ 2) : rnd (gen 0 fd).1 = nmT (nx 12 (nx 6 fd).2).1 ∧ (gen 0 fd).2 = (nx 12 (nx 6 fd).2).2 := by
  unfold gen
  rw [if_neg h0, if_neg h1, if_neg h2]
  exact ⟨by simp [rnd, ptk, tCell, tk, nmT], rfl⟩

set_option maxHeartbeats 2000000 in
set_option maxRecDepth 100000 in
theorem fml0 : Fml 0 := by
  intro w0 w fb fd hA hw0 hF
  have HA : Hid _ := hA
  have HW : Hid _ := hw0
  have HF : Hid _ := hF
  have hl6 := nx_lt 6 (by omega) fd
  clear hA hw0 hF
  go_enter Tryz.func16, Tryz.ntmps16
  go_wp2_with fail
  refine (next_any 6 (by omega) (by omega) _ w0.heap.size fb fd HF).mono ?_
  rintro e w1 ⟨rfl, hb1, hf1⟩
  have HF1 : Hid _ := hf1
  have HB1 : Hid (w.grownBy w1 (some fb)) := hb1
  have HW1 : Hid (Below w0.heap.size w0 w1) := below_gb HW.out hb1 HF.out.size HF.out.low
  clear hf1 hb1
  obtain ⟨q, hq⟩ : ∃ q, (nx 6 fd).1 = q := ⟨_, rfl⟩
  have HQ : Hid _ := hq
  rw [hq] at hl6 ⊢
  clear hq
  by_cases q0 : q = 0
  · subst q0
    have HG : Hid _ := gen0_num fd HQ.out
    have hl : Hid _ := nx_lt 200 (by omega) (nx 6 fd).2
    go_wp2_with fail
    refine (next_any 200 (by omega) (by omega) _ w0.heap.size fb _ HF1).mono ?_
    rintro e w2 ⟨rfl, hb2, hf2⟩
    have HF2 : Hid _ := hf2
    have HB2 : Hid (w.grownBy w2 (some fb)) := gb_trans HB1.out hb2
    have HW2 : Hid (Below w0.heap.size w0 w2) := below_gb HW1.out hb2 HF1.out.size HF1.out.low
    clear hb2 hf2
    go_wp2_with fail
    refine (num_any _ (by have := hl.out; omega) _ (amb_at HA.out HW2.out)).mono ?_
    rintro e w3 ⟨rfl, hb3⟩
    go_wp2_with fail
    go_ret
    rw [HG.out.1, HG.out.2]
    exact ⟨rfl, gb_trans HB2.out (gb_below hb3), HF2.out.below hb3⟩
  by_cases q1 : q = 1
  · subst q1
    have HG : Hid _ := gen0_text fd HQ.out
    have hl := nx_lt 6 (by omega) (nx 6 fd).2
    clear q0
    have HF1a : Hid (FD (w1.alloc (.cells #[.string ⟨#[]⟩, .string ⟨#[120]⟩, .string ⟨#[65, 49]⟩, .string ⟨#[66, 50]⟩, .string ⟨#[67]⟩, .string ⟨#[90, 57]⟩] 9)) w0.heap.size fb (nx 6 fd).2) := HF1.out.below ((Below.refl _ _).alloc (Nat.le_refl _) _)
    go_wp2_with fail
    refine (next_any 6 (by omega) (by omega) _ w0.heap.size fb _ HF1a).mono ?_
    rintro e w2 ⟨rfl, hb2, hf2⟩
    have hne : some w1.heap.size ≠ some fb := by intro e; have := HF1.out.lt; cases e; omega
    have hblk : w2.heap[w1.heap.size]? = some (.cells #[.string ⟨#[]⟩, .string ⟨#[120]⟩, .string ⟨#[65, 49]⟩, .string ⟨#[66, 50]⟩, .string ⟨#[67]⟩, .string ⟨#[90, 57]⟩] 9 (0, 0)) := by
      rw [hb2.block w1.heap.size (by simp) hne]; exact heap_alloc_new w1 _
    have HF2 : Hid _ := hf2
    have HB2 : Hid (w.grownBy w2 (some fb)) := gb_trans HB1.out (gb_trans (gb_below ((Below.refl _ _).alloc (Nat.le_refl _) _)) hb2)
    obtain ⟨j, hj⟩ : ∃ j, (nx 6 (nx 6 fd).2).1 = j := ⟨_, rfl⟩
    have HJ : Hid _ := hj
    have hcell : ∀ (k : Nat) (u : Value), #[Value.string ⟨#[]⟩, .string ⟨#[120]⟩, .string ⟨#[65, 49]⟩, .string ⟨#[66, 50]⟩, .string ⟨#[67]⟩, .string ⟨#[90, 57]⟩][k]? = some u → w2.cell? ⟨w1.heap.size, k, none⟩ = some u := fun k u h => by
      simp [World.cell?, hblk, h]
    have HC : Hid _ := hcell
    rw [hj] at hl ⊢
    clear hb2 hf2 hblk hj hcell hne
    rcases (show j = 0 ∨ j = 1 ∨ j = 2 ∨ j = 3 ∨ j = 4 ∨ j = 5 by omega) with rfl | rfl | rfl | rfl | rfl | rfl
    · have c := HC.out 0 _ rfl
      go_wp2_with fail
      go_ret
      rw [HG.out.1, HG.out.2, HJ.out]
      exact ⟨str_eq (by simp [texts]), HB2.out, HF2.out⟩
    · have c := HC.out 1 _ rfl
      go_wp2_with fail
      go_ret
      rw [HG.out.1, HG.out.2, HJ.out]
      exact ⟨str_eq (by simp [texts]), HB2.out, HF2.out⟩
    · have c := HC.out 2 _ rfl
      go_wp2_with fail
      go_ret
      rw [HG.out.1, HG.out.2, HJ.out]
      exact ⟨str_eq (by simp [texts]), HB2.out, HF2.out⟩
    · have c := HC.out 3 _ rfl
      go_wp2_with fail
      go_ret
      rw [HG.out.1, HG.out.2, HJ.out]
      exact ⟨str_eq (by simp [texts]), HB2.out, HF2.out⟩
    · have c := HC.out 4 _ rfl
      go_wp2_with fail
      go_ret
      rw [HG.out.1, HG.out.2, HJ.out]
      exact ⟨str_eq (by simp [texts]), HB2.out, HF2.out⟩
    · have c := HC.out 5 _ rfl
      go_wp2_with fail
      go_ret
      rw [HG.out.1, HG.out.2, HJ.out]
      exact ⟨str_eq (by simp [texts]), HB2.out, HF2.out⟩
  by_cases q2 : q = 2
  · subst q2
    have HG : Hid _ := gen0_word fd HQ.out
    have hl := nx_lt 3 (by omega) (nx 6 fd).2
    clear q0 q1
    have HF1a : Hid (FD (w1.alloc (.cells #[.string ⟨#[116, 114, 117, 101]⟩, .string ⟨#[102, 97, 108, 115, 101]⟩, .string ⟨#[57, 50, 50, 51, 51, 55, 50, 48, 51, 54, 56, 53, 52, 55, 55, 53, 56, 48, 55]⟩] 9)) w0.heap.size fb (nx 6 fd).2) := HF1.out.below ((Below.refl _ _).alloc (Nat.le_refl _) _)
    go_wp2_with fail
    refine (next_any 3 (by omega) (by omega) _ w0.heap.size fb _ HF1a).mono ?_
    rintro e w2 ⟨rfl, hb2, hf2⟩
    have hne : some w1.heap.size ≠ some fb := by intro e; have := HF1.out.lt; cases e; omega
    have hblk : w2.heap[w1.heap.size]? = some (.cells #[.string ⟨#[116, 114, 117, 101]⟩, .string ⟨#[102, 97, 108, 115, 101]⟩, .string ⟨#[57, 50, 50, 51, 51, 55, 50, 48, 51, 54, 56, 53, 52, 55, 55, 53, 56, 48, 55]⟩] 9 (0, 0)) := by
      rw [hb2.block w1.heap.size (by simp) hne]; exact heap_alloc_new w1 _
    have HF2 : Hid _ := hf2
    have HB2 : Hid (w.grownBy w2 (some fb)) := gb_trans HB1.out (gb_trans (gb_below ((Below.refl _ _).alloc (Nat.le_refl _) _)) hb2)
    obtain ⟨j, hj⟩ : ∃ j, (nx 3 (nx 6 fd).2).1 = j := ⟨_, rfl⟩
    have HJ : Hid _ := hj
    have hcell : ∀ (k : Nat) (u : Value), #[Value.string ⟨#[116, 114, 117, 101]⟩, .string ⟨#[102, 97, 108, 115, 101]⟩, .string ⟨#[57, 50, 50, 51, 51, 55, 50, 48, 51, 54, 56, 53, 52, 55, 55, 53, 56, 48, 55]⟩][k]? = some u → w2.cell? ⟨w1.heap.size, k, none⟩ = some u := fun k u h => by
      simp [World.cell?, hblk, h]
    have HC : Hid _ := hcell
    rw [hj] at hl ⊢
    clear hb2 hf2 hblk hj hcell hne
    rcases (show j = 0 ∨ j = 1 ∨ j = 2 by omega) with rfl | rfl | rfl
    · have c := HC.out 0 _ rfl
      go_wp2_with fail
      go_ret
      rw [HG.out.1, HG.out.2, HJ.out]
      exact ⟨str_eq (by simp [word3]), HB2.out, HF2.out⟩
    · have c := HC.out 1 _ rfl
      go_wp2_with fail
      go_ret
      rw [HG.out.1, HG.out.2, HJ.out]
      exact ⟨str_eq (by simp [word3]), HB2.out, HF2.out⟩
    · have c := HC.out 2 _ rfl
      go_wp2_with fail
      go_ret
      rw [HG.out.1, HG.out.2, HJ.out]
      exact ⟨str_eq (by simp [word3]), HB2.out, HF2.out⟩
  have HG : Hid _ := gen0_cell fd (by rw [HQ.out]; exact q0) (by rw [HQ.out]; exact q1) (by rw [HQ.out]; exact q2)
  have b0 : ((q : Int) == 0) = false := by simpa using (by omega : (q : Int) ≠ 0)
  have b1 : ((q : Int) == 1) = false := by simpa using (by omega : (q : Int) ≠ 1)
  have b2 : ((q : Int) == 2) = false := by simpa using (by omega : (q : Int) ≠ 2)
  clear q0 q1 q2
  go_wp2_with fail
  refine (few_any _ w0.heap.size fb _ HF1).mono ?_
  rintro e w2 ⟨rfl, hb2, hf2⟩
  go_wp2_with fail
  go_ret
  rw [HG.out.1, HG.out.2]
  exact ⟨rfl, gb_trans HB1.out hb2, hf2⟩
end Go.Proofs.YtiocnfambeochaaGreatDoor
