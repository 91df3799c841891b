/- The statement's own 'formula': the way that compares, out of its walk. -/
import Derived.Test.YtiocnfambeochaaGreatDoorFmlB
namespace Go.Proofs.YtiocnfambeochaaGreatDoor
open Go.RowKit

theorem callN (n : Nat) (hn0 : 0 < n) (hn : n ≤ 1000) (w0 : World) (fb : Nat) (f : List UInt8) : CallR 17 #[.pointer (some ⟨fb, 0, none⟩), .int .i64 n] w0 fb f (nx n f).2 (.int .i64 (nx n f).1) := fun W hW hF =>
  (next_any n hn0 hn W w0.heap.size fb f hF).mono fun _ _ ⟨he, hg, hf⟩ => ⟨he, below_gb hW hg hF.size hF.low, hf, hg⟩
theorem callF {deep : Nat} (hs : Fml deep) (w0 : World) (hA : Amb w0) (fb : Nat) (f : List UInt8) : CallR 16 #[.pointer (some ⟨fb, 0, none⟩), .int .i64 deep] w0 fb f (gen deep f).2 (.string ⟨(rnd (gen deep f).1).toArray⟩) := fun W hW hF =>
  (hs w0 W fb f hA hW hF).mono fun _ _ ⟨he, hg, hf⟩ => ⟨he, below_gb hW hg hF.size hF.low, hf, hg⟩

theorem cats {P : Program} (x y : List UInt8) (hx : x.length ≤ 20000) (hy : y.length ≤ 20000) : ∀ w : World, (Op.stringOp .add ⟨x.toArray⟩ ⟨y.toArray⟩).run P w = .ok (.string ⟨(x ++ y).toArray⟩) w := fun w =>
  run_string_add_lists w x y (by omega) (by omega)

theorem fml_cmp (deep : Nat) (hd : deep ≤ 3) (hs : Fml deep) : FmlQ deep 4 := by
  intro w0 w fb fd hA hw0 hF hq
  have hg := gen_cmp deep fd hq
  rw [hg.1, hg.2]
  have c9 := callN 9 (by omega) (by omega) w0 fb fd
  rw [hq] at c9
  have cA := callF hs w0 hA fb (nx 9 fd).2
  have cN := callN 2 (by omega) (by omega) w0 fb (gen deep (nx 9 fd).2).2
  have hjl := nx_lt 2 (by omega) (gen deep (nx 9 fd).2).2
  have cB := callF hs w0 hA fb (nx 2 (gen deep (nx 9 fd).2).2).2
  have lA : (rnd (gen deep (nx 9 fd).2).1).length ≤ 5000 := Nat.le_trans (gen_len deep _) (Ln_small hd)
  have lC : (rnd (gen deep (nx 2 (gen deep (nx 9 fd).2).2).2).1).length ≤ 5000 := Nat.le_trans (gen_len deep _) (Ln_small hd)
  clear hg hq
  generalize (nx 2 (gen deep (nx 9 fd).2).2).1 = j at *
  generalize rnd (gen deep (nx 9 fd).2).1 = A at *
  generalize rnd (gen deep (nx 2 (gen deep (nx 9 fd).2).2).2).1 = C at *
  have hj : #[Value.string ⟨#[60]⟩, .string ⟨#[61]⟩][j]? = some (.string ⟨(cmp2 j).toArray⟩) := by
    rcases (show j = 0 ∨ j = 1 by omega) with rfl | rfl <;> rfl
  have lj : (cmp2 j).length = 1 := by unfold cmp2; split <;> rfl
  exact cmp_walk w0 fb deep j fd _ _ _ _ ⟨A.toArray⟩ ⟨C.toArray⟩ ⟨(cmp2 j).toArray⟩ _ _ _ _ _ _ hj (by omega) (by omega) cA cN cB
    (cats [40] A (by simp) (by omega)) (cats _ [32] (by simp; omega) (by simp)) (cats _ (cmp2 j) (by simp; omega) (by omega)) (cats _ [32] (by simp; omega) (by simp)) (cats _ C (by simp; omega) (by omega)) (cats _ [41] (by simp; omega) (by simp))
    w hd c9 hw0 hF
end Go.Proofs.YtiocnfambeochaaGreatDoor
