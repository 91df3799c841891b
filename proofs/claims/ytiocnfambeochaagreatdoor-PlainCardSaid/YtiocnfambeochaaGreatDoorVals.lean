/- Vals: texts put together. -/
import Derived.Test.YtiocnfambeochaaGreatDoorMath
import Derived.Test.YtiocnfambeochaaGreatDoorPars
import Derived.Handy
/- The program's package values, walked. -/
set_option linter.unusedVariables false
set_option linter.unusedSimpArgs false
namespace Go.Proofs.YtiocnfambeochaaGreatDoor
open Go.RowKit

def vV (v : V) : Value := .agg #[.int .i64 v.k, .int .i64 v.n, .string v.s]
/-- A call that answers this value and turns nothing that was there. -/
def Gives (fn : Nat) (args : Array Value) (v : Value) : Prop := ∀ w : World, Calls Tryz.prog fn args w fun e w' => e = .returned v ∧ Below w.heap.size w w'
theorem bal {w w' : World} (h : Below w.heap.size w w') (o : Obj) : Below w.heap.size w (w'.alloc o) := h.alloc h.size o
theorem bl1 (w : World) (o : Obj) : Below w.heap.size w (w.alloc o) := (Below.refl _ _).alloc (Nat.le_refl _) _
theorem bl2 (w : World) (o p : Obj) : Below w.heap.size w ((w.alloc o).alloc p) := (bl1 w o).alloc (by simp) _
theorem bl3 (w : World) (o p q : Obj) : Below w.heap.size w (((w.alloc o).alloc p).alloc q) := (bl2 w o p).alloc (by simp; omega) _
set_option maxHeartbeats 1000000 in
theorem int_w (n : Int) : Gives 204 #[.int .i64 n] (vV (vI n)) := by
  intro w
  unfold vV vI eB
  go_enter Tryz.func204, Tryz.ntmps204
  go_wp2_with fail
  go_returns
  exact ⟨rfl, bl1 _ _⟩
set_option maxHeartbeats 1000000 in
theorem error_w (n : Int) : Gives 203 #[.int .i64 n] (vV (vE n)) := by
  intro w
  unfold vV vE eB
  go_enter Tryz.func203, Tryz.ntmps203
  go_wp2_with fail
  go_returns
  exact ⟨rfl, bl1 _ _⟩
set_option maxHeartbeats 1000000 in
theorem text_w (s : ByteArray) : Gives 256 #[.string s] (vV (vT s)) := by
  intro w
  unfold vV vT
  go_enter Tryz.func256, Tryz.ntmps256
  go_wp2_with fail
  go_returns
  exact ⟨rfl, bl1 _ _⟩
set_option maxHeartbeats 1000000 in
theorem bool_w (b : Bool) : Gives 226 #[.bool b] (vV (vB b)) := by
  intro w
  unfold vV vB eB
  cases b
  all_goals
    go_enter Tryz.func226, Tryz.ntmps226
    go_wp2_with fail
    go_returns
    exact ⟨rfl, bl1 _ _⟩
set_option maxHeartbeats 1000000 in
theorem cycle_w : Gives 177 #[] (vV cyc) := by
  intro w
  unfold vV cyc vE eB
  go_enter Tryz.func177, Tryz.ntmps177
  go_wp2
  go_returns
  exact ⟨rfl, bl2 _ _ _⟩
theorem ret_v {v u : V} (h : u = v) : Ending.returned (.agg #[.int .i64 u.k, .int .i64 u.n, .string u.s]) = .returned (vV v) := by rw [h]; rfl
theorem num_in {n s : Int} (hs : wrap64 n = s) (h : -9223372036854775808 ≤ n ∧ n ≤ 9223372036854775807) : vNum n = vI s := by
  have : s = n := by unfold wrap64 at hs; omega
  unfold vNum inR; rw [if_pos (decide_eq_true h), this]
theorem num_out {n : Int} (h : ¬ (-9223372036854775808 ≤ n ∧ n ≤ 9223372036854775807)) : vNum n = vE 1 := by
  unfold vNum inR; rw [if_neg (by rw [decide_eq_true_iff]; exact h)]
end Go.Proofs.YtiocnfambeochaaGreatDoor
