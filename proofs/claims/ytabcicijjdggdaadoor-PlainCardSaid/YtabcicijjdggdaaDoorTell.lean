/- Formula, of F8; the bounds of a new sheet refuse no number. -/
import Derived.Test.YtabcicijjdggdaaDoorNew
import Derived.Test.YtabcicijjdggdaaDoorRead
namespace Go.Proofs.YtabcicijjdggdaaDoor
open Go.RowKit

theorem cn_f8 : cn [70, 56] = (47, true) := by decide
theorem num_f8 (w : World) : Calls Tryd.prog 17 #[.string ⟨#[70, 56]⟩] w fun e w' => e = .returned (.tuple #[.int .i64 47, .bool true]) ∧ ∃ n, w' = w.drewN n := by
  have h := number_cell ⟨#[70, 56]⟩ w
  have e : (⟨#[70, 56]⟩ : ByteArray).data.toList = [70, 56] := rfl
  rw [e, cn_f8] at h
  exact h

set_option maxHeartbeats 1000000 in
theorem tell_any (W : World) (x : Nat) (t : List UInt8) (h : ST W x t) :
    Calls Tryd.prog 9 #[.pointer (some ⟨x, 0, none⟩), .string ⟨#[70, 56]⟩] W fun e w' => e = .returned (.tuple #[.string ⟨t.toArray⟩, .int .i64 0]) ∧ Below W.heap.size W w' := by
  have H1 : Hid (W.cell? ⟨x, 48, none⟩ = some (.string ⟨t.toArray⟩)) := h
  clear h
  go_enter Tryd.func9, Tryd.ntmps9
  go_wp2_with fail
  refine (num_f8 _).mono ?_
  rintro e w1 ⟨rfl, n, hw⟩
  have h2 : w1.cell? ⟨x, 48, none⟩ = some (.string ⟨t.toArray⟩) := by rw [hw]; exact H1.out
  have hb : Hid (Below W.heap.size W w1) := by unfold Hid; rw [hw]; exact below_drewN (Below.refl _ _) n
  clear hw H1
  go_wp2_with fail
  go_ret2
  exact ⟨rfl, hb.out⟩

set_option maxHeartbeats 1000000 in
theorem refuses_none (w : World) (n : Int) (h1 : -9223372036854775808 ≤ n) (h2 : n ≤ 9223372036854775807) :
    Calls Tryd.prog 37 #[.agg #[iMin, iMax], .int .i64 n] w fun e w' => e = .returned (.bool false) ∧ Below w.heap.size w w' := by
  unfold iMin iMax
  have h3 : ¬ n < -9223372036854775808 := by omega
  have h4 : ¬ 9223372036854775807 < n := by omega
  clear h1 h2
  go_enter Tryd.func37, Tryd.ntmps37
  go_wp2_with fail
  go_ret
  exact ⟨rfl, (Below.refl _ _).alloc (Nat.le_refl _) _⟩
end Go.Proofs.YtabcicijjdggdaaDoor
