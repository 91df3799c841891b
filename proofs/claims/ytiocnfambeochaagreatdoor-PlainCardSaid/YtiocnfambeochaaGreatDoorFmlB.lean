/- The statement's own 'formula', one deeper: the two ways that leave an order open. -/
import Derived.Test.YtiocnfambeochaaGreatDoorFmlA
import Derived.Deep.RegionWith
import Derived.Deep.DrawnRows
attribute [local go_sem ↓] Go.wp_at_zero Go.wp_at_succ
namespace Go.Proofs.YtiocnfambeochaaGreatDoor
open Go.RowKit

theorem fd_alloc {w : World} {B fb : Nat} {fd : List UInt8} (h : FD w B fb fd) (o : Obj) : FD (w.alloc o) B fb fd := h.below ((Below.refl _ _).alloc (Nat.le_refl _) _)

/-- A call in whatever world: what it returns, what it leaves. -/
def CallR (fn : Nat) (args : Array Value) (w0 : World) (fb : Nat) (f f' : List UInt8) (v : Value) : Prop := ∀ W, Below w0.heap.size w0 W → FD W w0.heap.size fb f →
  Calls Tryz.prog fn args W fun e w' => e = .returned v ∧ (Below w0.heap.size w0 w' ∧ FD w' w0.heap.size fb f' ∧ W.grownBy w' (some fb))

theorem cell_far {w w' : World} {fb k o : Nat} {v : Value} (hg : w.grownBy w' (some fb)) (hc : w.cell? ⟨k, o, none⟩ = some v) (hne : k ≠ fb) : w'.cell? ⟨k, o, none⟩ = some v := by
  have hk : k < w.heap.size := by
    rcases Nat.lt_or_ge k w.heap.size with h | h
    · exact h
    · simp [World.cell?, Array.getElem?_eq_none h] at hc
  rw [← hc]
  simp only [World.cell?]
  rw [hg.block k hk (by intro e; cases e; exact hne rfl)]

theorem cell_keep {w w' : World} {fb : Nat} {xs : Array Value} {t : TypeId} (k : Nat) (v : Value) (hg : (w.alloc (.cells xs t)).grownBy w' (some fb)) (hne : w.heap.size ≠ fb) (hv : xs[k]? = some v) : w'.cell? ⟨w.heap.size, k, none⟩ = some v := by
  have hb : w'.heap[w.heap.size]? = some (.cells xs t (0, 0)) := by
    rw [hg.block w.heap.size (by simp) (by intro e; cases e; exact hne rfl)]; exact heap_alloc_new w _
  simp [World.cell?, hb, hv]

theorem new_cell {xs : Array Value} {t : TypeId} {j : Nat} {v : Value} (hj : xs[j]? = some v) (w : World) : (w.alloc (.cells xs t)).cell? ⟨w.heap.size, j, none⟩ = some v := by
  have hb : (w.alloc (.cells xs t)).heap[w.heap.size]? = some (.cells xs t (0, 0)) := heap_alloc_new w _
  simp only [World.cell?, hb, hj]
  simp

theorem cell_keepD {w w' : World} {fb : Nat} {xs : Array Value} {t : TypeId} (k : Nat) (v : Value) (hg : (w.alloc (.cells xs t)).drew.grownBy w' (some fb)) (hne : w.heap.size ≠ fb) (hv : xs[k]? = some v) : w'.cell? ⟨w.heap.size, k, none⟩ = some v :=
  cell_keep k v (w := w) (gb_trans (show (w.alloc (.cells xs t)).grownBy (w.alloc (.cells xs t)).drew (some fb) from ⟨rfl, rfl, rfl, Nat.le_refl _, fun _ _ _ => rfl⟩) hg) hne hv

theorem gb_al {a b : World} {row : Option Nat} (o : Obj) (h : a.grownBy b row) : a.grownBy (b.alloc o) row := gb_trans h (gb_below ((Below.refl _ _).alloc (Nat.le_refl _) _))
theorem gb_s {a b c : World} {row : Option Nat} {o : Obj} (h : a.grownBy b row) (k : (b.alloc o).grownBy c row) : a.grownBy c row := gb_trans (gb_al o h) k
theorem gb_d {a b c : World} {row : Option Nat} (h : a.grownBy b row) (k : b.drew.grownBy c row) : a.grownBy c row := gb_trans h (gb_trans (show b.grownBy b.drew row from ⟨rfl, rfl, rfl, Nat.le_refl _, fun _ _ _ => rfl⟩) k)
theorem gb_sd {a b c : World} {row : Option Nat} {o : Obj} (h : a.grownBy b row) (k : (b.alloc o).drew.grownBy c row) : a.grownBy c row := gb_d (gb_al o h) k

set_option maxHeartbeats 4000000 in
set_option maxRecDepth 100000 in
theorem cmp_walk (w0 : World) (fb deep j : Nat) (f0 f1 f2 f3 f4 : List UInt8) (a c o s1 s2 s3 s4 s5 s6 : ByteArray)
    (hj : #[Value.string ⟨#[60]⟩, .string ⟨#[61]⟩][j]? = some (.string o)) (hj0 : (0 : Int) ≤ (j : Int)) (hj2 : (j : Int) < 2)
    (cA : CallR 16 #[.pointer (some ⟨fb, 0, none⟩), .int .i64 deep] w0 fb f1 f2 (.string a))
    (cN : CallR 17 #[.pointer (some ⟨fb, 0, none⟩), .int .i64 2] w0 fb f2 f3 (.int .i64 j))
    (cB : CallR 16 #[.pointer (some ⟨fb, 0, none⟩), .int .i64 deep] w0 fb f3 f4 (.string c))
    (h1 : ∀ w, (Op.stringOp .add ⟨#[40]⟩ a).run Tryz.prog w = .ok (.string s1) w)
    (h2 : ∀ w, (Op.stringOp .add s1 ⟨#[32]⟩).run Tryz.prog w = .ok (.string s2) w)
    (h3 : ∀ w, (Op.stringOp .add s2 o).run Tryz.prog w = .ok (.string s3) w)
    (h4 : ∀ w, (Op.stringOp .add s3 ⟨#[32]⟩).run Tryz.prog w = .ok (.string s4) w)
    (h5 : ∀ w, (Op.stringOp .add s4 c).run Tryz.prog w = .ok (.string s5) w)
    (h6 : ∀ w, (Op.stringOp .add s5 ⟨#[41]⟩).run Tryz.prog w = .ok (.string s6) w)
    (w : World) (hd : deep ≤ 3)
    (c9 : CallR 17 #[.pointer (some ⟨fb, 0, none⟩), .int .i64 9] w0 fb f0 f1 (.int .i64 4)) (hw : Hid (Below w0.heap.size w0 w)) (hf : Hid (FD w w0.heap.size fb f0)) :
    Calls Tryz.prog 16 #[.pointer (some ⟨fb, 0, none⟩), .int .i64 (deep + 1 : Nat)] w fun e w' => e = .returned (.string s6) ∧ w.grownBy w' (some fb) ∧ FD w' w0.heap.size fb f4 := by
  have hda : ((deep : Int) + 1 == 0) = false := by simpa using (by omega : (deep : Int) + 1 ≠ 0)
  go_enter Tryz.func16, Tryz.ntmps16
  go_wp2_with fail
  refine (c9 _ hw.out hf.out).mono ?_
  rintro e w1 ⟨rfl, hw1', hf1', hg1'⟩
  have HG1 : Hid _ := hg1'
  have ne1 : w1.heap.size ≠ fb := by have := hf1'.lt; omega
  have hdw : IntKind.i64.wrap (deep : Int) = deep := by rw [IntKind.wrap_i64]; omega
  have hAw : Hid (Below w0.heap.size w0 w1.drew) := hw1'.drew
  have hAf : Hid (FD w1.drew w0.heap.size fb f1) := hf1'.of_heap rfl
  have hAwS : Hid (∀ o, Below w0.heap.size w0 (w1.alloc o).drew) := fun o => (hw1'.alloc hf1'.size o).drew
  have hAfS : Hid (∀ o, FD (w1.alloc o).drew w0.heap.size fb f1) := fun o => (fd_alloc hf1' o).of_heap rfl
  have hnew := fun w : World => new_cell (t := 9) hj w
  clear hw1' hf1' hg1' c9
  go_wp2_with fail
  go_region_with (first
    | (go_at_call 16; refine (cB _ ?_ ?_).mono ?_; (first | with_reducible exact H3.out.1 | with_reducible exact H3.out.1.alloc H3.out.2.1.size _); (first | with_reducible exact H3.out.2.1 | with_reducible exact fd_alloc H3.out.2.1 _); rintro e w4 ⟨rfl, h4⟩; (first | (have c4 := cell_keep j _ h4.2.2 ne3 hj) | (have c4 := cell_far h4.2.2 c3 ne1) | (have c4 := cell_far h4.2.2 c3 ne2) | skip); have H4 : Hid _ := h4; clear h4)
    | (go_at_call 16; refine (cA _ ?_ ?_).mono ?_; (first | with_reducible exact hAw.out | with_reducible exact hAwS.out _); (first | with_reducible exact hAf.out | with_reducible exact hAfS.out _); rintro e w2 ⟨rfl, h2⟩; have ne2 : w2.heap.size ≠ fb := (by have := h2.2.1.lt; omega); (first | (have c2 : w2.cell? ⟨w1.heap.size, j, none⟩ = _ := cell_keepD j _ h2.2.2 ne1 hj) | skip); have H2 : Hid _ := h2; clear h2)
    | (go_at_call 17; refine (cN _ ?_ ?_).mono ?_; (first | with_reducible exact H2.out.1 | with_reducible exact H2.out.1.alloc H2.out.2.1.size _); (first | with_reducible exact H2.out.2.1 | with_reducible exact fd_alloc H2.out.2.1 _); rintro e w3 ⟨rfl, h3⟩; have ne3 : w3.heap.size ≠ fb := (by have := h3.2.1.lt; omega); (first | (have c3 := cell_keep j _ h3.2.2 ne2 hj) | (have c3 := cell_far h3.2.2 c2 ne1) | skip); have H3 : Hid _ := h3; clear h3))
  all_goals
    have k2 : w.grownBy w2 (some fb) := by first | with_reducible exact gb_d HG1.out H2.out.2.2 | with_reducible exact gb_sd HG1.out H2.out.2.2
    have g2 : Hid _ := k2
    clear k2
    have k3 : w.grownBy w3 (some fb) := by first | with_reducible exact gb_trans g2.out H3.out.2.2 | with_reducible exact gb_s g2.out H3.out.2.2
    have g3 : Hid _ := k3
    clear k3
    have k4 : w.grownBy w4 (some fb) := by first | with_reducible exact gb_trans g3.out H4.out.2.2 | with_reducible exact gb_s g3.out H4.out.2.2
    have g4 : Hid _ := k4
    clear k4
    clear h1 h2 h3 h4 h5 h6 hnew cA cN cB hdw hda hAwS hAfS hAw hAf hj hj0 hj2
    go_wp2_with fail
    go_ret
    first | exact ⟨rfl, g4.out, H4.out.2.1⟩ | exact ⟨rfl, gb_al _ g4.out, fd_alloc H4.out.2.1 _⟩
end Go.Proofs.YtiocnfambeochaaGreatDoor
