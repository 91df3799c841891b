/- A working out, walked: Holds. -/
import Derived.Test.YtiocnfambeochaaGreatDoorQ30
import Derived.Deep.RegionHeld3
set_option linter.unusedVariables false
set_option linter.unusedSimpArgs false
namespace Go.Proofs.YtiocnfambeochaaGreatDoor
open Go.RowKit

set_option maxRecDepth 100000 in
set_option maxHeartbeats 2000000 in
theorem holds_w (x : Rd) (v : V) (w : World) : Calls Tryz.prog 173 #[.agg #[.int .i64 x.nd.c, .bool x.nd.a, .int .i64 x.w.k, .int .i64 x.w.n, .string x.w.s], vV v] w fun e w' => e = .returned (.bool ((see x.nd v).eqB x.w)) ∧ Below w.heap.size w w' := by
  have HS : Hid (Gives 178 #[.agg #[.int .i64 x.nd.c, .bool x.nd.a], vV v] (vV (see x.nd v))) := see_w x.nd v
  obtain ⟨s, hs⟩ : ∃ s, see x.nd v = s := ⟨_, rfl⟩
  rw [hs] at HS ⊢
  clear hs
  have key := cmps s x.w
  obtain ⟨B, hB⟩ : ∃ B, s.eqB x.w = B := ⟨_, rfl⟩
  rw [hB] at key ⊢
  clear hB
  unfold vV at HS ⊢
  rcases key with ⟨rfl, h1, h2, h3⟩ | ⟨rfl, h1⟩ | ⟨rfl, h1, h2⟩ | ⟨rfl, h1, h2, h3⟩
  all_goals
    go_enter Tryz.func173, Tryz.ntmps173
    go_wp2_with fail
    have hbx := box5 (two0 w (.cells #[.int .i64 x.nd.c, .bool x.nd.a, .int .i64 x.w.k, .int .i64 x.w.n, .string x.w.s] 274) (.cells #[.int .i64 v.k, .int .i64 v.n, .string v.s] 52))
    obtain ⟨q0, q1, q2, q3, q4⟩ := hbx
    have hvx : ((w.alloc (.cells #[.int .i64 x.nd.c, .bool x.nd.a, .int .i64 x.w.k, .int .i64 x.w.n, .string x.w.s] 274)).alloc (.cells #[.int .i64 v.k, .int .i64 v.n, .string v.s] 52)).drew.heap[w.heap.size + 1]? = some (.cells #[.int .i64 v.k, .int .i64 v.n, .string v.s] 52 (0, 0)) := by
      have := rnew (w.alloc (.cells #[.int .i64 x.nd.c, .bool x.nd.a, .int .i64 x.w.k, .int .i64 x.w.n, .string x.w.s] 274)) #[.int .i64 v.k, .int .i64 v.n, .string v.s] 52
      rw [show (w.alloc (.cells #[.int .i64 x.nd.c, .bool x.nd.a, .int .i64 x.w.k, .int .i64 x.w.n, .string x.w.s] 274)).heap.size = w.heap.size + 1 by simp] at this
      exact this
    obtain ⟨y0, y1, y2, _, _, _⟩ := box3 rfl hvx
    go_region_held3 (fun w' => w'.cell? ⟨w.heap.size, 0, none⟩ = some (.int .i64 x.nd.c) ∧ w'.cell? ⟨w.heap.size, 1, none⟩ = some (.bool x.nd.a) ∧ w'.cell? ⟨w.heap.size, 2, none⟩ = some (.int .i64 x.w.k) ∧ w'.cell? ⟨w.heap.size, 3, none⟩ = some (.int .i64 x.w.n) ∧ w'.cell? ⟨w.heap.size, 4, none⟩ = some (.string x.w.s) ∧ w'.cell? ⟨w.heap.size + 1, 0, none⟩ = some (.int .i64 v.k) ∧ w'.cell? ⟨w.heap.size + 1, 1, none⟩ = some (.int .i64 v.n) ∧ w'.cell? ⟨w.heap.size + 1, 2, none⟩ = some (.string v.s)) (go_keep) (first
      | (go_at_call 178; refine (HS.out _).mono ?_; rintro e w1 ⟨rfl, hb1⟩; obtain ⟨p0, p1, p2, p3, p4⟩ := box5 (bb (two0 w _ _) hb1); obtain ⟨p5, p6, p7, _, _, _⟩ := box3 rfl (bb hvx hb1); have HB : Hid (Below w.heap.size w w1) := ((bl2 w _ _).drew).trans (hb1.mono (by simp; omega)); clear hb1))
  all_goals
    go_wp2_with fail
    go_ret
    exact ⟨rfl, HB.out⟩
end Go.Proofs.YtiocnfambeochaaGreatDoor
