/- A new sheet: New, and the statement's own begin. -/
import Derived.Test.YtabcicijjdggdaaDoorChk
import Derived.Deep.MidRow
namespace Go.Proofs.YtabcicijjdggdaaDoor
open Go.RowKit

def iMin : Value := .int .i64 (-9223372036854775808)
def iMax : Value := .int .i64 9223372036854775807
/-- The cells of a sheet without formulas of which so many cells have their widest bounds. -/
structure NewAt (cs : Array Value) (k : Nat) : Prop where
  size : cs.size = 145
  texts : ∀ j, j < 48 → cs[1 + j]? = some (.string ⟨#[]⟩)
  lows : ∀ j, j < k → cs[49 + j * 2]? = some iMin ∧ cs[49 + j * 2 + 1]? = some iMax
theorem zero_texts : (Tryd.zeroCells59.toList.drop 1).take 48 = List.replicate 48 (.string ⟨#[]⟩) := by kernel_rfl
theorem newAt_zero : NewAt (Tryd.zeroCells59.setIfInBounds 0 (.int .i64 0)) 0 where
  size := by rw [Array.size_setIfInBounds]; rfl
  texts := by
    intro j hj
    rw [Array.getElem?_setIfInBounds_ne (by omega)]
    have h := congrArg (fun l => l[j]?) zero_texts
    simp only [List.getElem?_take, if_pos hj, List.getElem?_drop, List.getElem?_replicate] at h
    rw [← h, Array.getElem?_toList]
  lows := by intro j hj; omega
theorem newAt_next {cs : Array Value} {k : Nat} (h : NewAt cs k) (hk : k < 48) : NewAt ((cs.setIfInBounds (49 + k * 2) iMin).setIfInBounds (49 + k * 2 + 1) iMax) (k + 1) where
  size := by simp [h.size]
  texts := by
    intro j hj
    rw [Array.getElem?_setIfInBounds_ne (by omega), Array.getElem?_setIfInBounds_ne (by omega)]
    exact h.texts j hj
  lows := by
    intro j hj
    have hs := h.size
    by_cases e : j = k
    · subst e
      refine ⟨?_, ?_⟩
      · rw [Array.getElem?_setIfInBounds_ne (by omega), Array.getElem?_setIfInBounds_self_of_lt (by omega)]
      · rw [Array.getElem?_setIfInBounds_self_of_lt (by simp; omega)]
    · have h2 := h.lows j (by omega)
      refine ⟨?_, ?_⟩
      · rw [Array.getElem?_setIfInBounds_ne (by omega), Array.getElem?_setIfInBounds_ne (by omega)]; exact h2.1
      · rw [Array.getElem?_setIfInBounds_ne (by omega), Array.getElem?_setIfInBounds_ne (by omega)]; exact h2.2

set_option maxHeartbeats 1000000 in
theorem new_any (w : World) :
    Calls Tryd.prog 14 #[.int .i64 0] w fun e w' => e = .returned (.tuple #[.pointer (some ⟨w.heap.size, 0, none⟩), .int .i64 0]) ∧ ∃ cs, w' = w.alloc (.cells cs 59) ∧ NewAt cs 48 := by
  go_enter Tryd.func14, Tryd.ntmps14
  go_wp2_with fail
  go_loopw [15] (fun i wr => ∃ (k : Nat) (cs : Array Value), k ≤ 48 ∧ i = .int .i64 k ∧ wr = w.alloc (.cells cs 59) ∧ Hid (NewAt cs k)) (fun i _ => 48 - (intOf i).toNat)
  case atStart => exact ⟨0, _, by omega, rfl, rfl, newAt_zero⟩
  case round =>
    obtain ⟨k, cs, hk, rfl, rfl, hN⟩ := hrel
    by_cases hlt : k < 48
    · have hlti : (k : Int) < 48 := by omega
      have hsz := hN.out.size
      obtain ⟨v0, hv0⟩ : ∃ v, cs[49 + k * 2]? = some v := ⟨_, Array.getElem?_eq_getElem (by omega)⟩
      obtain ⟨v1, hv1⟩ : ∃ v, (cs.setIfInBounds (49 + k * 2) (.int .i64 (-9223372036854775808)))[49 + k * 2 + 1]? = some v := ⟨_, Array.getElem?_eq_getElem (by simp; omega)⟩
      clear hsz
      go_wp2_with fail
      exact ⟨⟨k + 1, _, by omega, by go_num, rfl, newAt_next hN.out hlt⟩, by simp [intOf]; omega⟩
    · have hlti : ¬ (k : Int) < 48 := by omega
      have e : k = 48 := by omega
      subst e
      go_wp2_with fail
      go_ret2
      exact ⟨rfl, cs, rfl, hN.out⟩

/-- A sheet lies in this block: its formulas are one cell each, and F8 has the widest bounds. -/
def SH (w : World) (x : Nat) : Prop := ∃ cs, w.heap[x]? = some (.cells cs 59 (0, 0)) ∧ cs.size = 145 ∧ (∀ j, j < 48 → ∃ v, cs[1 + j]? = some v ∧ v.oneCell' = true) ∧ cs[143]? = some iMin ∧ cs[144]? = some iMax
/-- The sheet in this block has this formula in F8. -/
def ST (w : World) (x : Nat) (t : List UInt8) : Prop := w.cell? ⟨x, 48, none⟩ = some (.string ⟨t.toArray⟩)
theorem newAt_SH {w : World} {cs : Array Value} (h : NewAt cs 48) : SH (w.alloc (.cells cs 59)) w.heap.size := by
  refine ⟨cs, ?_, h.size, fun j hj => ⟨_, h.texts j hj, rfl⟩, (h.lows 47 (by omega)).1, (h.lows 47 (by omega)).2⟩
  show (w.heap.push _)[w.heap.size]? = _
  simp

set_option maxHeartbeats 1000000 in
theorem pick_zero (w : World) : Calls Tryd.prog 15 #[.int .i64 0, .int .i64 65] w fun e w' => e = .returned (.int .i64 0) ∧ w' = w := by
  go_enter Tryd.func15, Tryd.ntmps15
  go_wp2_with fail
  go_ret
  exact ⟨rfl, rfl⟩

set_option maxHeartbeats 1000000 in
theorem begin_any (w : World) :
    Calls Tryd.prog 7 #[.int .i64 0] w fun e w' => ∃ x, e = .returned (.tuple #[.pointer (some ⟨x, 0, none⟩), .bool true]) ∧ (Below w.heap.size w w' ∧ SH w' x ∧ w.heap.size ≤ x) := by
  go_enter Tryd.func7, Tryd.ntmps7
  go_wp2_with fail
  refine (pick_zero _).mono ?_
  rintro e w1 ⟨rfl, rfl⟩
  go_wp2_with fail
  refine (new_any _).mono ?_
  rintro e w1 ⟨rfl, cs, rfl, hN⟩
  have HN : Hid _ := hN
  clear hN
  go_wp2_with fail
  go_ret2
  exact ⟨_, rfl, (Below.refl _ _).alloc (Nat.le_refl _) _, newAt_SH HN.out, Nat.le_refl _⟩
end Go.Proofs.YtabcicijjdggdaaDoor
