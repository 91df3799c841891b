/- The statement's small functions on sheets: pick, begin, set. -/
import Derived.Test.YtiocnfambeochaaGreatDoorEdx
set_option linter.unusedVariables false
set_option linter.unusedSimpArgs false
namespace Go.Proofs.YtiocnfambeochaaGreatDoor
open Go.RowKit

/-- Which of n things the raw number c speaks of. -/
def pk (c : Int) (n : Nat) : Nat := if c < 0 then ((-(c + 1)).toNat) % n else c.toNat % n
theorem pk_lt (c : Int) {n : Nat} (h : 0 < n) : pk c n < n := by unfold pk; split <;> exact Nat.mod_lt _ h
theorem tmod_nat {a : Int} {n : Nat} (ha : 0 ≤ a) : a.tmod n = ((a.toNat % n : Nat) : Int) := by
  obtain ⟨m, rfl⟩ := Int.eq_ofNat_of_zero_le ha
  rfl
set_option maxHeartbeats 1000000 in
theorem pick_any (c : Int) (n : Nat) (hc : I64 c) (hn : 0 < n) (hn2 : n ≤ 1000) (w : World) : Calls Tryz.prog 33 #[.int .i64 c, .int .i64 n] w fun e w' => e = .returned (.int .i64 (pk c n)) ∧ w' = w := by
  unfold I64 at hc
  obtain ⟨hc1, hc2⟩ := hc
  have hn0 : ((n : Int) == 0) = false := by simpa using (by omega : (n : Int) ≠ 0)
  have hn1 : ¬ (n : Int) = 0 := by omega
  by_cases h : c < 0
  · have hw1 : wrap64 (c + 1) = c + 1 := by unfold wrap64; omega
    have hw2 : wrap64 (-(c + 1)) = -(c + 1) := by unfold wrap64; omega
    have ht : (-(c + 1)).tmod (n : Int) = (pk c n : Nat) := by unfold pk; rw [if_pos h]; exact tmod_nat (by omega)
    go_enter Tryz.func33, Tryz.ntmps33
    go_wp2_with fail
    go_ret
    exact ⟨rfl, rfl⟩
  · have ht : c.tmod (n : Int) = (pk c n : Nat) := by unfold pk; rw [if_neg h]; exact tmod_nat (by omega)
    go_enter Tryz.func33, Tryz.ntmps33
    go_wp2_with fail
    go_ret
    exact ⟨rfl, rfl⟩
set_option maxHeartbeats 1000000 in
theorem begin_any (c : Int) (hc : I64 c) (w : World) :
    Calls Tryz.prog 19 #[.int .i64 c] w fun e w' => ∃ x, e = .returned (.tuple #[.pointer (some ⟨x, 0, none⟩), .bool true]) ∧ Hid (w.heap.size ≤ x) ∧ Hid (Below w.heap.size w w') ∧ Hid (SR w' x fs0 bd0 (k0 (pk c 65))) := by
  have HC : Hid _ := hc
  clear hc
  go_enter Tryz.func19, Tryz.ntmps19
  go_wp2_with fail
  refine (pick_any c 65 HC.out (by omega) (by omega) _).mono ?_
  rintro e w1 ⟨rfl, rfl⟩
  go_wp2_with fail
  refine (new_any (pk c 65) (by have := pk_lt c (n := 65) (by omega); omega) _).mono ?_
  rintro e w1 ⟨x, rfl, h1, h2, h3⟩
  go_wp2_with fail
  go_ret2
  exact ⟨_, rfl, h1, h2, h3⟩
theorem er_zero (bd : Nat → Int × Int) : ∀ (es : List (ByteArray × ByteArray)) (i : Nat) (fs : Nat → ByteArray), (edR bd i es fs).e = 0 → (edR bd i es fs).i = 0 ∧ (edR bd i es fs).p = 0
  | [], i, fs, _ => ⟨rfl, rfl⟩
  | e :: l, i, fs, h => by
    unfold edR at h ⊢
    by_cases h0 : (ckP bd e.1 e.2).e ≠ 0
    · rw [if_pos h0] at h; exact absurd h h0
    · rw [if_neg h0] at h ⊢; exact er_zero bd l _ _ h
section
variable {fs : Nat → ByteArray} {bd : Nat → Int × Int} {k : Kp}
set_option maxHeartbeats 1000000 in
theorem set_any (W : World) (x : Nat) (cl tx : ByteArray) (hSR : Hid (SR W x fs bd k)) (hA : Hid (Amb W)) (hl : Hid (tx.size ≤ maxLen)) :
    Calls Tryz.prog 20 #[.pointer (some ⟨x, 0, none⟩), .string cl, .string tx] W fun e w' => e = .returned (.bool (decide ((edR bd 0 [(cl, tx)] fs).e = 0))) ∧ Hid (((edR bd 0 [(cl, tx)] fs).e ≠ 0 → Below W.heap.size W w') ∧ ((edR bd 0 [(cl, tx)] fs).e = 0 → Only x W w' ∧ SR w' x (edR bd 0 [(cl, tx)] fs).fs bd k)) := by
  go_enter Tryz.func20, Tryz.ntmps20
  go_wp2_with fail
  have HB1 : Hid (Below W.heap.size W (W.alloc (.cells #[.string cl, .string tx] 68))) := bl1 _ _
  have HV : Hid (Slc (W.alloc (.cells #[.string cl, .string tx] 68)) 68 2 (.slice (some ⟨W.heap.size, 0, none⟩) 1 1) 1 ([(cl, tx)].flatMap edC)) :=
    ⟨rfl, .inr ⟨W.heap.size, 0, 1, _, rfl, heap_alloc_new W _, Nat.le_refl _, by unfold maxLen; omega, by simp, rfl⟩⟩
  refine (edit_any (fs := fs) (bd := bd) (k := k) _ x _ [(cl, tx)] (hSR.out.below HB1.out) (hA.out.below HB1.out) HV (by simp) (by intro e he; simp at he; subst he; exact hl.out)).mono ?_
  rintro e w1 ⟨rfl, h2⟩
  have HZ : Hid _ := er_zero bd [(cl, tx)] 0 fs
  have H2 : Hid (((edR bd 0 [(cl, tx)] fs).e ≠ 0 → Below W.heap.size W w1) ∧ ((edR bd 0 [(cl, tx)] fs).e = 0 → Only x W w1 ∧ SR w1 x (edR bd 0 [(cl, tx)] fs).fs bd k)) :=
    ⟨fun h => HB1.out.trans ((h2.out.1 h).mono (by simp)), fun h => ⟨(Below.only HB1.out x).trans (h2.out.2 h).1, (h2.out.2 h).2⟩⟩
  clear h2 HV
  obtain ⟨r, hr⟩ : ∃ r, edR bd 0 [(cl, tx)] fs = r := ⟨_, rfl⟩
  have HRR : Hid _ := hr
  rw [hr] at HZ H2 ⊢
  clear hr
  by_cases h0 : r.e = 0
  · obtain ⟨z1, z2⟩ := HZ.out h0
    have h0' : (r.e == 0) = true := by simpa using h0
    have H0 : Hid _ := h0
    rw [z1, z2]
    clear h0
    go_wp2_with fail
    go_ret
    rw [HRR.out]
    exact ⟨ret_bool (by simp [H0.out]), H2⟩
  · have h0' : (r.e == 0) = false := by simpa using h0
    have H0 : Hid _ := h0
    clear h0
    go_wp2_with fail
    go_ret
    rw [HRR.out]
    exact ⟨ret_bool (decide_eq_false H0.out).symm, H2⟩
end
end Go.Proofs.YtiocnfambeochaaGreatDoor
