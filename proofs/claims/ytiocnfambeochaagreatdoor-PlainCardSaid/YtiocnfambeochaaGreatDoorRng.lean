/- Range and Area, walked. -/
import Derived.Test.YtiocnfambeochaaGreatDoorCell
import Derived.Test.YtiocnfambeochaaGreatDoorMath
import Derived.Test.YtiocnfambeochaaGreatDoorSl
set_option linter.unusedVariables false
set_option linter.unusedSimpArgs false
namespace Go.Proofs.YtiocnfambeochaaGreatDoor
open Go.RowKit

theorem cn_cellN (l : List UInt8) : cn l = match cellN l with | some c => ((c : Int), true) | none => (0, false) := by
  match l with
  | [] => rfl
  | [_] => rfl
  | [a, b] =>
    unfold cn cellN cnI
    dsimp only
    by_cases h : 65 ≤ a.toNat ∧ a.toNat ≤ 70 ∧ 49 ≤ b.toNat ∧ b.toNat ≤ 56
    · rw [if_pos h, if_pos (by omega)]
      dsimp only
      congr 1
      omega
    · rw [if_neg h, if_neg (by omega)]
  | _ :: _ :: _ :: _ => rfl
theorem Tryz.info3 : (Tryz.prog.info? 3).map (fun i => (i.zero, i.size, i.bytes)) = some (some (.int .i64 0), 1, 8) := by kernel_rfl
def intV (c : Nat) : Value := .int .i64 c
/-- What is there behind so many rows and so many cells of the next. -/
def rngAt (a b i j : Nat) : List Nat := ((List.range' (a / 6) i).flatMap fun row => (List.range' (a % 6) (b % 6 + 1 - a % 6)).map fun col => row * 6 + col) ++ (List.range' (a % 6) j).map fun col => (a / 6 + i) * 6 + col
theorem rngAt_len (a b i j : Nat) : (rngAt a b i j).length = i * (b % 6 + 1 - a % 6) + j := by
  unfold rngAt
  rw [List.length_append, List.length_map, List.length_range']
  congr 1
  induction i with
  | zero => simp
  | succ i ih => rw [List.range'_concat, List.flatMap_append, List.length_append, ih]; simp [Nat.succ_mul]
theorem rngAt_next (a b i j : Nat) : rngAt a b i (j + 1) = rngAt a b i j ++ [(a / 6 + i) * 6 + (a % 6 + j)] := by
  unfold rngAt
  rw [List.range'_concat, List.map_append, List.append_assoc]
  simp
theorem rngAt_row (a b i : Nat) : rngAt a b i (b % 6 + 1 - a % 6) = rngAt a b (i + 1) 0 := by
  unfold rngAt
  rw [List.range'_concat, List.flatMap_append]
  simp
theorem rngAt_all (a b : Nat) : rngAt a b (b / 6 + 1 - a / 6) 0 = rangeL a b := by
  unfold rngAt rangeL
  simp

set_option maxHeartbeats 1000000 in
theorem range_any (s t : ByteArray) (a b : Nat) (hs : cellN s.data.toList = some a) (ht : cellN t.data.toList = some b) (w : World) :
    Calls Tryz.prog 157 #[.string s, .string t] w fun e w' => ∃ v, e = .returned v ∧ Below w.heap.size w w' ∧ Slc w' 3 1 v (rangeL a b).length ((rangeL a b).map intV) ∧ ∀ g, v.ownBlock = some g → w.heap.size ≤ g := by
  obtain ⟨i0, hi, hz0, hz1, hz2⟩ := info_parts Tryz.info3
  have HX : Hid (cn s.data.toList = ((a : Int), true)) := by unfold Hid; rw [cn_cellN, hs]
  have HY : Hid (cn t.data.toList = ((b : Int), true)) := by unfold Hid; rw [cn_cellN, ht]
  have ha := cellN_lt hs
  have hb := cellN_lt ht
  clear hs ht
  obtain ⟨ar, har⟩ : ∃ x : Int, (a : Int) / 6 = x := ⟨_, rfl⟩
  obtain ⟨br, hbr⟩ : ∃ x : Int, (b : Int) / 6 = x := ⟨_, rfl⟩
  have HAR : Hid (ar = ((a / 6 : Nat) : Int)) := by unfold Hid; omega
  have HAC : Hid ((a : Int) % 6 = ((a % 6 : Nat) : Int)) := by unfold Hid; omega
  have HBR : Hid (br = ((b / 6 : Nat) : Int)) := by unfold Hid; omega
  have HBC : Hid ((b : Int) % 6 = ((b % 6 : Nat) : Int)) := by unfold Hid; omega
  have b1 : 0 ≤ ar := by omega
  have b2 : ar ≤ 7 := by omega
  have b3 : 0 ≤ (a : Int) % 6 := by omega
  have b4 : (a : Int) % 6 ≤ 5 := by omega
  have b5 : 0 ≤ br := by omega
  have b6 : br ≤ 7 := by omega
  have b7 : 0 ≤ (b : Int) % 6 := by omega
  have b8 : (b : Int) % 6 ≤ 5 := by omega
  have HA : Hid (a < 48) := ha
  have HB : Hid (b < 48) := hb
  clear ha hb
  go_enter Tryz.func157, Tryz.ntmps157
  go_wp2_with fail
  refine (number_cell s _).mono ?_
  rintro e w1 ⟨rfl, n1, rfl⟩
  rw [HX.out]
  go_wp2_with fail
  refine (number_cell t _).mono ?_
  rintro e w1 ⟨rfl, n2, rfl⟩
  rw [HY.out]
  go_wp2_with fail
  have hb0 : Hid (Below w.heap.size w (w.drewN (n1 + n2))) := below_drewN (Below.refl _ _) _
  generalize w.drewN (n1 + n2) = W at *
  go_loopw [8, 9] (fun v x wr => ∃ (i : Nat) (q : Int), Hid (i ≤ b / 6 + 1 - a / 6 ∧ q = a / 6 + i) ∧ x = .int .i64 q ∧ Hid (Below w.heap.size w wr) ∧ Hid (Slc wr 3 1 v (rngAt a b i 0).length ((rngAt a b i 0).map intV)) ∧ Hid (∀ g, v.ownBlock = some g → w.heap.size ≤ g)) (fun _ x _ => (br + 1 - intOf x).toNat)
  case atStart => exact ⟨0, ar, by have := HAR.out; exact ⟨by omega, by omega⟩, rfl, hb0.out, slc_nil _ _ _, fun g hg => by cases hg⟩
  case round =>
    obtain ⟨i, q, hi1, rfl, hb1, hs1, hg1⟩ := hrel
    obtain ⟨hi2, hi3⟩ := hi1.out
    have h1 := HAR.out
    have h2 := HAC.out
    have h3 := HBR.out
    have h4 := HBC.out
    by_cases hle : q ≤ br
    · have HI : Hid (i < b / 6 + 1 - a / 6) := by unfold Hid; omega
      have HQ : Hid (q = a / 6 + i) := hi3
      have q0 : 0 ≤ q := by omega
      have q7 : q ≤ 7 := by omega
      clear hi1 hi2 hi3 h1 h2 h3 h4
      go_wp2_with fail
      go_loopw [8, 10] (fun v x wr => ∃ (j : Nat) (p : Int), Hid (j ≤ b % 6 + 1 - a % 6 ∧ p = a % 6 + j) ∧ x = .int .i64 p ∧ Hid (Below w.heap.size w wr) ∧ Hid (Slc wr 3 1 v (rngAt a b i j).length ((rngAt a b i j).map intV)) ∧ Hid (∀ g, v.ownBlock = some g → w.heap.size ≤ g)) (fun _ x _ => ((b : Int) % 6 + 1 - intOf x).toNat)
      case atStart => exact ⟨0, (a : Int) % 6, by have := HAC.out; exact ⟨by omega, by omega⟩, rfl, hb1.out, hs1.out, hg1.out⟩
      case round =>
        obtain ⟨j, p, hj1, rfl, hb2, hs2, hg2⟩ := hrel
        obtain ⟨hj2, hj3⟩ := hj1.out
        have h2 := HAC.out
        have h4 := HBC.out
        by_cases hle2 : p ≤ (b : Int) % 6
        · have HJ : Hid (j < b % 6 + 1 - a % 6) := by unfold Hid; omega
          have HP : Hid (p = a % 6 + j) := hj3
          have p0 : 0 ≤ p := by omega
          have p5 : p ≤ 5 := by omega
          have HL : Hid ((rngAt a b i j).length ≤ 48) := by
            unfold Hid; rw [rngAt_len]
            have h5 : i * (b % 6 + 1 - a % 6) ≤ 7 * 6 := Nat.mul_le_mul (by have := HI.out; have := HB.out; omega) (by omega)
            omega
          clear hj1 hj2 hj3 h2 h4
          go_wp2_with (at_builtin; go_must (refine wpList_append_sl (w := _) rfl _ _ 56 rfl 3 i0 _ 1 8 Tryz.underlying56 hi hz0 hz1 hz2 rfl _ _ _ rfl (hs2.out.kept ?c0) ⟨wr.heap.size, 0, none⟩ 1 1 [.int .i64 (q * 6 + p)] rfl (by decide) rfl ?c1 ?c2 ?c3 ?c4 ?_))
          case c0 => intro g hg; exact Below.heap_alloc _ _ _ (hs2.out.lt g hg)
          case c1 =>
            intro k u hk
            match k, hk with
            | 0, hk => simp at hk; subst hk; simp [Addr.add]
            | k + 1, hk => simp at hk
          case c2 => intro u hu; simp at hu; subst hu; rfl
          case c3 => have := HL.out; unfold maxLen; omega
          case c4 => have := HL.out; omega
          intro v' w2 hsl hgr hob
          have hnew : Hid (Slc w2 3 1 v' (rngAt a b i (j + 1)).length ((rngAt a b i (j + 1)).map intV)) := by
            unfold Hid
            rw [rngAt_next, List.length_append, List.map_append]
            have e : q * 6 + p = (((a / 6 + i) * 6 + (a % 6 + j) : Nat) : Int) := by have := HQ.out; have := HP.out; omega
            rw [e] at hsl
            exact hsl
          have hbel : Hid (Below w.heap.size w w2) := by
            refine (hb2.out.alloc hb2.out.size _).grown hgr (by simp; have := hb2.out.size; omega) ?_
            intro k hk; exact hg2.out k hk
          have hg3 : Hid (∀ g, v'.ownBlock = some g → w.heap.size ≤ g) := by
            intro g hg
            rcases hob with ⟨h, _⟩ | ⟨h, _⟩
            · rw [h] at hg; exact hg2.out g hg
            · rw [h] at hg; cases hg; have := hb2.out.size; simp; omega
          clear hsl hgr hob hs2 hg2 hb2
          go_wp2_with fail
          go_roundw
          case rel => exact ⟨j + 1, p + 1, by have := HJ.out; have := HP.out; exact ⟨by omega, by omega⟩, by go_num, hbel.out, hnew.out, hg3.out⟩
          case measure => simp [intOf]; omega
        · have HJ : Hid (j = b % 6 + 1 - a % 6) := by unfold Hid; omega
          clear hj1 hj2 hj3 h2 h4
          have hs3 : Hid (Slc wr 3 1 u8 (rngAt a b (i + 1) 0).length ((rngAt a b (i + 1) 0).map intV)) := by
            have := hs2.out; rw [HJ.out, rngAt_row] at this; exact this
          clear hs2
          go_wp2_with fail
          go_roundw
          case rel => exact ⟨i + 1, q + 1, by have := HI.out; have := HQ.out; exact ⟨by omega, by omega⟩, by go_num, hb2.out, hs3.out, hg2.out⟩
          case measure => simp [intOf]; omega
    · have HI : Hid (i = b / 6 + 1 - a / 6) := by unfold Hid; omega
      clear hi1 hi2 hi3 h1 h2 h3 h4
      have hs3 : Hid (Slc wr 3 1 u8 (rangeL a b).length ((rangeL a b).map intV)) := by
        have := hs1.out; rw [HI.out, rngAt_all] at this; exact this
      clear hs1
      go_wp2_with fail
      go_ret
      exact ⟨_, rfl, hb1.out, hs3.out, hg1.out⟩

theorem Slc.len {w : World} {e : TypeId} {size : Nat} {v : Value} {n : Nat} {xs : List Value} (h : Slc w e size v n xs) : ∃ a c, v = .slice a n c := by
  rcases h.2 with ⟨rfl, rfl⟩ | ⟨g, o, cap, cur, rfl, _⟩
  · exact ⟨none, 0, rfl⟩
  · exact ⟨_, _, rfl⟩
set_option maxHeartbeats 1000000 in
theorem range_none (s t : ByteArray) (h : cellN s.data.toList = none ∨ cellN t.data.toList = none) (w : World) :
    Calls Tryz.prog 157 #[.string s, .string t] w fun e w' => e = .returned (.slice none 0 0) ∧ Below w.heap.size w w' := by
  cases hs : cellN s.data.toList with
  | none =>
    have HX : Hid (cn s.data.toList = (0, false)) := by unfold Hid; rw [cn_cellN, hs]
    clear h hs
    go_enter Tryz.func157, Tryz.ntmps157
    go_wp2_with fail
    refine (number_cell s _).mono ?_
    rintro e w1 ⟨rfl, n1, rfl⟩
    rw [HX.out]
    go_wp2_with fail
    go_ret
    exact ⟨rfl, below_drewN (Below.refl _ _) _⟩
  | some a =>
    have HX : Hid (cn s.data.toList = ((a : Int), true)) := by unfold Hid; rw [cn_cellN, hs]
    have HY : Hid (cn t.data.toList = (0, false)) := by
      rcases h with h | h
      · rw [hs] at h; cases h
      · unfold Hid; rw [cn_cellN, h]
    clear h hs
    go_enter Tryz.func157, Tryz.ntmps157
    go_wp2_with fail
    refine (number_cell s _).mono ?_
    rintro e w1 ⟨rfl, n1, rfl⟩
    rw [HX.out]
    go_wp2_with fail
    refine (number_cell t _).mono ?_
    rintro e w1 ⟨rfl, n2, rfl⟩
    rw [HY.out]
    go_wp2_with fail
    go_ret
    exact ⟨rfl, below_drewN (Below.refl _ _) _⟩
theorem ar_len {s t : List UInt8} {a b : Nat} (hs : cellN s = some a) (ht : cellN t = some b) : arI (cn s) (cn t) = (rangeL a b).length := by
  rw [cn_cellN, cn_cellN, hs, ht, ← rngAt_all, rngAt_len]
  unfold arI
  simp only [if_true, Nat.add_zero]
  by_cases h1 : (b : Int) % 6 - a % 6 + 1 < 1
  · rw [if_pos h1]
    have : b % 6 + 1 - a % 6 = 0 := by omega
    rw [this]; simp
  · rw [if_neg h1]
    by_cases h2 : (b : Int) / 6 - a / 6 + 1 < 1
    · rw [if_pos h2]
      have : b / 6 + 1 - a / 6 = 0 := by omega
      rw [this]; simp
    · rw [if_neg h2, Int.natCast_mul, Int.mul_comm]
      congr 1 <;> omega
set_option maxHeartbeats 1000000 in
theorem area_any (s t : ByteArray) (w : World) :
    Calls Tryz.prog 125 #[.string s, .string t] w fun e w' => e = .returned (.int .i64 (arI (cn s.data.toList) (cn t.data.toList))) ∧ Below w.heap.size w w' := by
  by_cases h : cellN s.data.toList = none ∨ cellN t.data.toList = none
  · have HR : Hid (arI (cn s.data.toList) (cn t.data.toList) = 0) := by
      unfold Hid arI
      rw [cn_cellN, cn_cellN]
      rcases h with h | h <;> rw [h] <;> simp
    have H : Hid _ := h
    clear h
    go_enter Tryz.func125, Tryz.ntmps125
    go_wp2_with fail
    refine (range_none s t H.out _).mono ?_
    rintro e w1 ⟨rfl, hb⟩
    go_wp2_with fail
    go_ret
    rw [HR.out]
    exact ⟨rfl, hb⟩
  · obtain ⟨a, ha⟩ : ∃ a, cellN s.data.toList = some a := by
      cases e : cellN s.data.toList with
      | none => exact absurd (.inl e) h
      | some a => exact ⟨a, rfl⟩
    obtain ⟨b, hb⟩ : ∃ b, cellN t.data.toList = some b := by
      cases e : cellN t.data.toList with
      | none => exact absurd (.inr e) h
      | some a => exact ⟨a, rfl⟩
    have HR : Hid (arI (cn s.data.toList) (cn t.data.toList) = (rangeL a b).length) := ar_len ha hb
    have HA : Hid _ := ha
    have HB : Hid _ := hb
    clear h ha hb
    go_enter Tryz.func125, Tryz.ntmps125
    go_wp2_with fail
    refine (range_any s t a b HA.out HB.out _).mono ?_
    rintro e w1 ⟨v, rfl, hb, hs, hg⟩
    obtain ⟨q, cp, rfl⟩ := hs.len
    clear hs hg
    have HL : Hid _ := hb
    clear hb
    go_wp2_with fail
    go_ret
    rw [HR.out]
    exact ⟨rfl, HL.out⟩
end Go.Proofs.YtiocnfambeochaaGreatDoor
