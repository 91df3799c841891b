/- The statement's own 'formula', at every depth that is asked. -/
import Derived.Test.YtiocnfambeochaaGreatDoorFmlC
import Derived.Test.YtiocnfambeochaaGreatDoorFmlD
namespace Go.Proofs.YtiocnfambeochaaGreatDoor
open Go.RowKit

theorem fml_op (deep q : Nat) (hq5 : 5 < q) (hd : deep ≤ 3) (hs : Fml deep) : FmlQ deep q := by
  intro w0 w fb fd hA hw0 hF hq
  have hg := gen_op deep fd (by omega)
  rw [hg.1, hg.2]
  have hl9 := nx_lt 9 (by omega) fd
  rw [hq] at hl9
  have c9 := callN 9 (by omega) (by omega) w0 fb fd
  rw [hq] at c9
  have cA := callF hs w0 hA fb (nx 9 fd).2
  have cN := callN 5 (by omega) (by omega) w0 fb (gen deep (nx 9 fd).2).2
  have hjl := nx_lt 5 (by omega) (gen deep (nx 9 fd).2).2
  have cB := callF hs w0 hA fb (nx 5 (gen deep (nx 9 fd).2).2).2
  have lA : (rnd (gen deep (nx 9 fd).2).1).length ≤ 5000 := Nat.le_trans (gen_len deep _) (Ln_small hd)
  have lC : (rnd (gen deep (nx 5 (gen deep (nx 9 fd).2).2).2).1).length ≤ 5000 := Nat.le_trans (gen_len deep _) (Ln_small hd)
  clear hg hq
  generalize (nx 5 (gen deep (nx 9 fd).2).2).1 = j at *
  generalize rnd (gen deep (nx 9 fd).2).1 = A at *
  generalize rnd (gen deep (nx 5 (gen deep (nx 9 fd).2).2).2).1 = C at *
  have hj : #[Value.string ⟨#[43]⟩, .string ⟨#[45]⟩, .string ⟨#[42]⟩, .string ⟨#[47]⟩, .string ⟨#[38]⟩][j]? = some (.string ⟨(op5 j).toArray⟩) := by
    rcases (show j = 0 ∨ j = 1 ∨ j = 2 ∨ j = 3 ∨ j = 4 by omega) with rfl | rfl | rfl | rfl | rfl <;> rfl
  have lj := op5_len j
  exact op_walk w0 fb deep j q hq5 hl9 fd _ _ _ _ ⟨A.toArray⟩ ⟨C.toArray⟩ ⟨(op5 j).toArray⟩ _ _ _ _ _ _ hj (by omega) (by omega) cA cN cB
    (cats [40] A (by simp) (by omega)) (cats _ [41, 32] (by simp; omega) (by simp)) (cats _ (op5 j) (by simp; omega) (by omega)) (cats _ [32, 40] (by simp; omega) (by simp)) (cats _ C (by simp; omega) (by omega)) (cats _ [41] (by simp; omega) (by simp))
    w hd c9 hw0 hF

theorem fml_succ (deep : Nat) (hd : deep ≤ 3) (hs : Fml deep) : Fml (deep + 1) := by
  intro w0 w fb fd hA hw hF
  rcases (show (nx 9 fd).1 = 0 ∨ (nx 9 fd).1 = 1 ∨ (nx 9 fd).1 = 2 ∨ (nx 9 fd).1 = 3 ∨ (nx 9 fd).1 = 4 ∨ (nx 9 fd).1 = 5 ∨ 5 < (nx 9 fd).1 by omega) with h | h | h | h | h | h | h
  · exact fml_if deep hd hs w0 w fb fd hA hw hF h
  · exact fml_at deep hd w0 w fb fd hA hw hF h
  · exact fml_bad deep hd hs w0 w fb fd hA hw hF h
  · exact fml_rng deep hd w0 w fb fd hA hw hF h
  · exact fml_cmp deep hd hs w0 w fb fd hA hw hF h
  · exact fml_neg deep hd w0 w fb fd hA hw hF h
  · exact fml_op deep _ h hd hs w0 w fb fd hA hw hF rfl

/-- 'formula' at every depth that the law asks. -/
theorem fml_all : ∀ d, d ≤ 2 → Fml d
  | 0, _ => fml0
  | d + 1, h => fml_succ d (by omega) (fml_all d (by omega))
end Go.Proofs.YtiocnfambeochaaGreatDoor
