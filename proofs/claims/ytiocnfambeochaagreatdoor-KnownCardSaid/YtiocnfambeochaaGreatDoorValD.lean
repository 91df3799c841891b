/- Values, walked: Negate, Divide, Join, Equal, Less. -/
import Derived.Test.YtiocnfambeochaaGreatDoorQ10
import Derived.Deep.RegionWith
set_option linter.unusedVariables false
set_option linter.unusedSimpArgs false
namespace Go.Proofs.YtiocnfambeochaaGreatDoor
open Go.RowKit

theorem box3 {W W' : World} {q : Nat} {a b c : Value} {t : TypeId} (hb : W'.heap[q]? = W.heap[q]?) (h : W.heap[q]? = some (.cells #[a, b, c] t (0, 0))) : W'.cell? ⟨q, 0, none⟩ = some a ∧ W'.cell? ⟨q, 1, none⟩ = some b ∧ W'.cell? ⟨q, 2, none⟩ = some c ∧ W'.frozen? ⟨q, 0, none⟩ = false ∧ W'.frozen? ⟨q, 1, none⟩ = false ∧ W'.frozen? ⟨q, 2, none⟩ = false := by
  rw [h] at hb
  exact ⟨cell_of_row W' q 0 _ t (0, 0) hb, cell_of_row W' q 1 _ t (0, 0) hb, cell_of_row W' q 2 _ t (0, 0) hb, by simp [World.frozen?, hb], by simp [World.frozen?, hb], by simp [World.frozen?, hb]⟩
theorem b3o (w : World) (a b c : Value) (t : TypeId) (z : Obj) : ((w.alloc (.cells #[a, b, c] t)).alloc z).drew.heap[w.heap.size]? = some (.cells #[a, b, c] t (0, 0)) := by
  show ((w.alloc (.cells #[a, b, c] t)).alloc z).heap[w.heap.size]? = _
  rw [Below.heap_alloc _ _ _ (by simp)]; exact heap_alloc_new w _
theorem b3n (w : World) (a b c : Value) (t : TypeId) (z : Obj) : ((w.alloc z).alloc (.cells #[a, b, c] t)).drew.heap[w.heap.size + 1]? = some (.cells #[a, b, c] t (0, 0)) := by
  have := heap_alloc_new (w.alloc z) (.cells #[a, b, c] t)
  rw [show (w.alloc z).heap.size = w.heap.size + 1 by simp] at this
  exact this
set_option maxHeartbeats 2000000 in
theorem neg_w (a : V) (ha : I64 a.n) : Gives 222 #[vV a] (vV (vNeg a)) := by
  intro w
  have HS : Hid (Gives 238 #[vV (vI 0), vV a] (vV (vNeg a))) := sub_w (vI 0) a (by unfold I64 vI; simp) ha
  obtain ⟨r, hr⟩ : ∃ r, vNeg a = r := ⟨_, rfl⟩
  rw [hr] at HS ⊢
  clear hr ha
  have HI : Hid (Gives 204 #[.int .i64 0] (vV (vI 0))) := int_w 0
  obtain ⟨z, hz⟩ : ∃ z, vV (vI 0) = z := ⟨_, rfl⟩
  rw [hz] at HS HI
  clear hz
  unfold vV at HS ⊢
  go_enter Tryz.func222, Tryz.ntmps222
  go_wp2_with fail
  go_region_with (first
    | (go_at_call 204; refine (HI.out _).mono ?_; rintro e w1 ⟨rfl, hb1⟩; obtain ⟨p0, p1, p2, _⟩ := box3 (hb1.block w.heap.size (by simp; omega)) (b3o w _ _ _ _ _); obtain ⟨r0, r1, r2, r3, r4, r5⟩ := box3 (hb1.block (w.heap.size + 1) (by simp)) (b3n w _ _ _ _ _))
    | (go_at_call 238; refine (HS.out _).mono ?_; rintro e w2 ⟨rfl, hb2⟩; obtain ⟨u0, u1, u2, u3, u4, u5⟩ := box3 (hb2.block (w.heap.size + 1) (by have := hb1.size; simp at this ⊢; omega)) (by rw [hb1.block (w.heap.size + 1) (by simp)]; exact b3n w _ _ _ _ _)))
  all_goals
    have HB : Hid (Below w.heap.size w w2) := (((bl2 w _ _).drew).trans (hb1.mono (by simp; omega))).trans (hb2.mono (by have := hb1.size; simp at this; omega))
    have HR : Hid (w2.heap[w.heap.size + 1]? = some (.cells #[.int .i64 0, .int .i64 0, .string ⟨#[]⟩] 52 (0, 0))) := by
      unfold Hid
      rw [hb2.block (w.heap.size + 1) (by have := hb1.size; simp at this ⊢; omega), hb1.block (w.heap.size + 1) (by simp)]; exact b3n w _ _ _ _ _
    clear hb1 hb2
    go_wp2_with fail
    refine bodyPost_ret (results_cell1 rfl _ _ _ ⟨w.heap.size + 1, 0, none⟩ _ _ rfl (load52 (rset (rset (rset HR.out))) rfl)) rfl ?_
    exact ⟨rfl, by repeat (first | exact HB.out | refine Below.setCell ?_ (by dsimp only; omega) _)⟩
theorem ba_list {a b : ByteArray} (h : a.toList = b.toList) : a = b := by
  rw [ByteArray.toList_eq, ByteArray.toList_eq] at h
  cases a; cases b
  simp only at h
  rw [Array.toList_inj] at h
  rw [h]
set_option maxHeartbeats 2000000 in
theorem eq_w (a b : V) : Gives 243 #[vV a, vV b] (vV (vEq a b)) := by
  intro w
  by_cases h : a.k = b.k
  · have h' : (a.k != b.k) = false := by simpa using h
    by_cases hn : a.n = b.n
    · by_cases hs : a.s = b.s
      · have HF : Hid (vEq a b = vB true) := by unfold Hid vEq; rw [if_pos h, eqB_iff.2 (by cases a; cases b; simp_all)]
        unfold vV
        go_enter Tryz.func243, Tryz.ntmps243
        go_wp2
        go_returns
        rw [HF.out]
        exact ⟨rfl, by repeat (first | exact Below.refl _ _ | refine bal ?_ _)⟩
      · have hs' : ¬ a.s.toList = b.s.toList := fun e => hs (ba_list e)
        have HF : Hid (vEq a b = vB false) := by unfold Hid vEq; rw [if_pos h, eqB_ne (fun e => hs (by rw [e]))]
        unfold vV
        go_enter Tryz.func243, Tryz.ntmps243
        go_wp2
        go_returns
        rw [HF.out]
        exact ⟨rfl, by repeat (first | exact Below.refl _ _ | refine bal ?_ _)⟩
    · have HF : Hid (vEq a b = vB false) := by unfold Hid vEq; rw [if_pos h, eqB_ne (fun e => hn (by rw [e]))]
      unfold vV
      go_enter Tryz.func243, Tryz.ntmps243
      go_wp2
      go_returns
      rw [HF.out]
      exact ⟨rfl, by repeat (first | exact Below.refl _ _ | refine bal ?_ _)⟩
  · have h' : (a.k != b.k) = true := by simpa using h
    have HF : Hid (vEq a b = vE 4) := by unfold Hid vEq; rw [if_neg h]
    clear h
    unfold vV
    go_enter Tryz.func243, Tryz.ntmps243
    go_wp2
    go_returns
    rw [HF.out]
    exact ⟨rfl, by repeat (first | exact Below.refl _ _ | refine bal ?_ _)⟩
end Go.Proofs.YtiocnfambeochaaGreatDoor
