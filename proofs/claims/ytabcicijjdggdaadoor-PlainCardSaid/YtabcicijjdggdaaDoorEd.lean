/- Edit, of one edit of F8; the statement's own set. -/
import Derived.Test.YtabcicijjdggdaaDoorChkF
import Derived.Deep.MidRow
import Derived.Deep.WholeRow
namespace Go.Proofs.YtabcicijjdggdaaDoor
open Go.RowKit

theorem wpList_load_run {P : Program} {ops : Array Oper} {rest : List Oper} {op : Oper} {a : Act} {w : World} {Q : Exit → Act → World → Prop} (hgd : op.guard = none) (ty : TypeId) (x : Operand) (ho : op.op = .load ty x)
    (ad : Addr) (hx : a.eval x = .pointer (some ad)) (v : Value) (hr : (loadVar ty ad).run P w = .ok v w) (h : wpList P ops Q rest (a.put op.dst v) w) : wpList P ops Q (op :: rest) a w :=
  wpList_plain hgd fun _ hK => by
    unfold Oper.wp execOp
    simp only [ho, hx, Instr.loadAt, Instr.sureAddr, Sem.run_bind, Sem.run_pure, Result.andThen_ok, hr]
    exact hK _ _ h
theorem wpList_store_run {P : Program} {ops : Array Oper} {rest : List Oper} {op : Oper} {a : Act} {w : World} {Q : Exit → Act → World → Prop} (hgd : op.guard = none) (ty : TypeId) (x y : Operand) (ho : op.op = .store ty x y)
    (ad : Addr) (v : Value) (hx : a.eval x = .pointer (some ad)) (hy : a.eval y = v) (w2 : World) (hr : (storeVar ty ad v).run P w = .ok () w2) (h : wpList P ops Q rest (a.put op.dst undef) w2) : wpList P ops Q (op :: rest) a w :=
  wpList_plain hgd fun _ hK => by
    unfold Oper.wp execOp
    simp only [ho, hx, hy, Instr.storeAt, Instr.sureAddr, Sem.run_bind, Sem.run_pure, Result.andThen_ok, hr]
    exact hK _ _ h

theorem below_setCells {B : Nat} {a : World} {b : Nat} (hb : B ≤ b) : ∀ (vs : List Value) (o : Nat) (w : World), Below B a w → Below B a (w.setCells b o vs)
  | [], _, _, h => h
  | v :: r, o, _, h => below_setCells hb r (o + 1) _ (h.setCell (p := ⟨b, o, none⟩) hb v)
theorem row_setCell {w : World} {b k : Nat} {cs : Array Value} {u : Value} {t : TypeId} (h : w.heap[b]? = some (.cells cs t (0, 0))) : (w.setCell ⟨b, k, none⟩ u).heap[b]? = some (.cells (cs.setIfInBounds k u) t (0, 0)) := by
  have hlt := lt_of_block h
  have h' : w.heap[b] = .cells cs t (0, 0) := by simpa [Array.getElem?_eq_getElem hlt] using h
  show (w.heap.modify b _)[b]? = _
  rw [Array.getElem?_eq_getElem (by simpa using hlt), Array.getElem_modify_self, h']
  rfl
theorem info54 : (Tryd.prog.info? 54).map (·.size) = some 48 := by kernel_rfl

/-- The formulas of a sheet, as a row of 48. -/
theorem SH.row {w : World} {x : Nat} (h : SH w x) : ∃ fs : List Value, fs.length = 48 ∧ w.rangeAt x 1 fs ∧ w.there x 1 48 ∧ (∀ v ∈ fs, v.oneCell' = true) := by
  obtain ⟨cs, hb, hs, ht, _⟩ := h
  refine ⟨(cs.extract 1 (1 + 48)).toList, by simp [hs], World.rangeAt_of_block hb 1 48, ?_, ?_⟩
  · intro j hj
    obtain ⟨v, hv, _⟩ := ht j hj
    refine ⟨by rw [cell_of_row w x (1 + j) cs 59 (0, 0) hb, hv]; rfl, by simp [World.frozen?, hb]⟩
  · intro v hv
    obtain ⟨j, hj⟩ := List.getElem?_of_mem hv
    simp only [Array.getElem?_toList, Array.getElem?_extract] at hj
    split at hj
    · obtain ⟨v', hv', h1⟩ := ht j (by omega)
      rw [hv'] at hj
      cases hj
      exact h1
    · cases hj
theorem there_block {w w' : World} {x : Nat} (h : w'.heap[x]? = w.heap[x]?) {o n : Nat} (ht : w.there x o n) : w'.there x o n := by
  intro j hj
  have := ht j hj
  unfold World.cell? World.frozen? at this ⊢
  simp only at this ⊢
  rw [h]
  exact this

set_option maxHeartbeats 2000000 in
theorem edit_f8 (W : World) (x b : Nat) (s : ByteArray) (hSH : Hid (SH W x)) (hA : Hid (Amb W)) (he : Hid ((rd s.data.toList).e = 0)) (hs0 : 0 < s.size) (hl : s.size ≤ 120)
    (hb0 : W.cell? ⟨b, 0, none⟩ = some (.string ⟨#[70, 56]⟩)) (hb1 : W.cell? ⟨b, 1, none⟩ = some (.string s)) (B : Nat) (hB : Hid (B ≤ x)) (hBW : Hid (B ≤ W.heap.size)) :
    Calls Tryd.prog 16 #[.pointer (some ⟨x, 0, none⟩), .slice (some ⟨b, 0, none⟩) 1 1] W fun e w' => e = .returned (.tuple #[.int .i64 0, .int .i64 0, .int .i64 0]) ∧ Below B W w' ∧ ST w' x (plT s.data.toList) := by
  obtain ⟨fl, hfl, hra, hth, hone⟩ := hSH.out.row
  obtain ⟨fs, hfs⟩ : ∃ fs : Array Value, fs = fl.toArray := ⟨_, rfl⟩
  have h1 : Hid ((loadVar 54 ⟨x, 1, none⟩).run Tryd.prog W = .ok (.agg fs) W) := by
    unfold Hid; rw [hfs]
    exact run_loadVar_mid W x 1 54 fl (.array 48 9) hra Tryd.underlying54 rfl (by rw [hfl]; exact info54)
  have h2 : Hid ((storeVar 54 ⟨W.heap.size, 0, none⟩ (.agg fs)).run Tryd.prog (W.alloc (.cells #[.string ⟨#[]⟩, .string ⟨#[]⟩, .string ⟨#[]⟩, .string ⟨#[]⟩, .string ⟨#[]⟩, .string ⟨#[]⟩, .string ⟨#[]⟩, .string ⟨#[]⟩, .string ⟨#[]⟩, .string ⟨#[]⟩, .string ⟨#[]⟩, .string ⟨#[]⟩, .string ⟨#[]⟩, .string ⟨#[]⟩, .string ⟨#[]⟩, .string ⟨#[]⟩, .string ⟨#[]⟩, .string ⟨#[]⟩, .string ⟨#[]⟩, .string ⟨#[]⟩, .string ⟨#[]⟩, .string ⟨#[]⟩, .string ⟨#[]⟩, .string ⟨#[]⟩, .string ⟨#[]⟩, .string ⟨#[]⟩, .string ⟨#[]⟩, .string ⟨#[]⟩, .string ⟨#[]⟩, .string ⟨#[]⟩, .string ⟨#[]⟩, .string ⟨#[]⟩, .string ⟨#[]⟩, .string ⟨#[]⟩, .string ⟨#[]⟩, .string ⟨#[]⟩, .string ⟨#[]⟩, .string ⟨#[]⟩, .string ⟨#[]⟩, .string ⟨#[]⟩, .string ⟨#[]⟩, .string ⟨#[]⟩, .string ⟨#[]⟩, .string ⟨#[]⟩, .string ⟨#[]⟩, .string ⟨#[]⟩, .string ⟨#[]⟩, .string ⟨#[]⟩] 54)) = .ok () (W.alloc (.cells fs 54))) := by
    unfold Hid; rw [hfs]
    exact run_storeVar_new W 54 _ _ (by rw [List.size_toArray, hfl]; exact info54) (by show 48 = _; rw [List.size_toArray, hfl]) (all_oneCell_toArray hone)
  have HF : Hid (fs.size = 48) := by unfold Hid; rw [hfs, List.size_toArray, hfl]
  have HO : Hid (∀ v ∈ fs.toList, v.oneCell' = true) := by unfold Hid; rw [hfs]; exact hone
  have HTH : Hid (W.there x 1 48) := hth
  clear hra hfl hth hone hfs
  go_enter Tryd.func16, Tryd.ntmps16
  go_wp2_with (first
    | (refine wpList_load_run (P := Tryd.prog) ?_ 54 (.tmp 19) ?_ ⟨x, 1, none⟩ ?_ (.agg fs) ?_ ?_; (rfl); (rfl); (rfl); (exact h1.out))
    | (refine wpList_store_run (P := Tryd.prog) ?_ 54 (.tmp 7) (.tmp 20) ?_ ⟨W.heap.size, 0, none⟩ (.agg fs) ?_ ?_ (W.alloc (.cells fs 54)) ?_ ?_; (rfl); (rfl); (rfl); (rfl); (exact h2.out)))
  have HB1 : Hid (Below W.heap.size W (W.alloc (.cells fs 54))) := (Below.refl _ _).alloc (Nat.le_refl _) _
  have HE1 : Hid ((W.alloc (.cells fs 54)).heap[W.heap.size]? = some (.cells fs 54 (0, 0))) := heap_alloc_new W _
  have hc0 : (W.alloc (.cells fs 54)).cell? ⟨b, 0, none⟩ = some (.string ⟨#[70, 56]⟩) := by
    rw [World.cell?_alloc_lt _ _ _ (World.block_lt_of_cell? W _ hb0)]; exact hb0
  have hc1 : (W.alloc (.cells fs 54)).cell? ⟨b, 1, none⟩ = some (.string s) := by
    rw [World.cell?_alloc_lt _ _ _ (World.block_lt_of_cell? W _ hb1)]; exact hb1
  generalize W.alloc (.cells fs 54) = W1 at *
  clear hb0 hb1 h1 h2
  refine wp_loop_rounds 2 ?_
  rw [rounds_succ]
  go_wp2_with fail
  have HB2 : Hid (Below W.heap.size W (W1.alloc (.cells #[.string ⟨#[70, 56]⟩, .string s] 50))) := HB1.out.alloc HB1.out.size _
  have HE2 : Hid ((W1.alloc (.cells #[.string ⟨#[70, 56]⟩, .string s] 50)).heap[W.heap.size]? = some (.cells fs 54 (0, 0))) := by
    unfold Hid; rw [Below.heap_alloc _ _ _ (lt_of_block HE1.out)]; exact HE1.out
  refine (check_f8 _ x s (hSH.out.below HB2.out) (hA.out.below HB2.out) he hs0 hl).mono ?_
  rintro e w2 ⟨rfl, hb2⟩
  have HB3 : Hid (Below W.heap.size W w2) := HB2.out.trans (hb2.mono HB2.out.size)
  have HE3 : Hid (w2.heap[W.heap.size]? = some (.cells fs 54 (0, 0))) := by
    unfold Hid; rw [hb2.block _ (lt_of_block HE2.out)]; exact HE2.out
  clear hb2
  obtain ⟨pt, hpt⟩ : ∃ pt, (⟨(plT s.data.toList).toArray⟩ : ByteArray) = pt := ⟨_, rfl⟩
  have HPT : Hid _ := hpt
  rw [hpt]
  clear hpt
  obtain ⟨v47, hv47⟩ : ∃ v, w2.cell? ⟨W.heap.size, 47, none⟩ = some v := ⟨fs[47]'(by have := HF.out; omega), by
    rw [cell_of_row w2 W.heap.size 47 fs 54 (0, 0) HE3.out]; exact Array.getElem?_eq_getElem _⟩
  have hfz : w2.frozen? ⟨W.heap.size, 47, none⟩ = false := by have := HE3.out; simp [World.frozen?, this]
  obtain ⟨fs2, hfs2⟩ : ∃ fs2, fs.setIfInBounds 47 (.string pt) = fs2 := ⟨_, rfl⟩
  have HF2 : Hid (fs2.size = 48) := by unfold Hid; rw [← hfs2, Array.size_setIfInBounds]; exact HF.out
  have H47 : Hid (fs2[47]? = some (.string pt)) := by
    unfold Hid; rw [← hfs2, Array.getElem?_setIfInBounds_self_of_lt (by rw [HF.out]; omega)]
  have HO2 : Hid (fs2.all (·.oneCell') = true) := by
    unfold Hid; rw [← hfs2]
    refine Array.all_eq_true_iff_forall_mem.2 fun v hv => ?_
    rcases Array.mem_or_eq_of_mem_setIfInBounds hv with h | h
    · exact HO.out v (by simpa using h)
    · rw [h]; rfl
  have HE4 : Hid ((w2.setCell ⟨W.heap.size, 47, none⟩ (.string pt)).heap[W.heap.size]? = some (.cells fs2 54 (0, 0))) := by
    unfold Hid; rw [row_setCell HE3.out, hfs2]
  have hx := hSH.out.lt
  have HX4 : Hid ((w2.setCell ⟨W.heap.size, 47, none⟩ (.string pt)).there x 1 48) := by
    refine there_block ?_ HTH.out
    rw [Below.heap_setCell _ _ _ _ (by show x ≠ W.heap.size; omega)]
    exact HB3.out.block x hx
  have h3 : Hid ((loadVar 54 ⟨W.heap.size, 0, none⟩).run Tryd.prog (w2.setCell ⟨W.heap.size, 47, none⟩ (.string pt)) = .ok (.agg fs2) (w2.setCell ⟨W.heap.size, 47, none⟩ (.string pt))) :=
    run_loadVar_row _ _ 54 54 fs2 (0, 0) (.array 48 9) HE4.out Tryd.underlying54 rfl (by rw [HF2.out]; exact info54)
  have h4 : Hid ((storeVar 54 ⟨x, 1, none⟩ (.agg fs2)).run Tryd.prog (w2.setCell ⟨W.heap.size, 47, none⟩ (.string pt)) = .ok () ((w2.setCell ⟨W.heap.size, 47, none⟩ (.string pt)).setCells x 1 fs2.toList)) :=
    run_storeVar_mid _ x 1 54 fs2 (by rw [HF2.out]; exact HX4.out) (by rw [HF2.out]; exact info54) HO2.out
  clear hfs2 hx
  go_wp2_with fail
  rw [rounds_succ]
  go_wp2_with (first
    | (refine wpList_load_run (P := Tryd.prog) ?_ 54 (.tmp 7) ?_ ⟨W.heap.size, 0, none⟩ ?_ (.agg fs2) ?_ ?_; (rfl); (rfl); (rfl); (exact h3.out))
    | (refine wpList_store_run (P := Tryd.prog) ?_ 54 (.tmp 48) (.tmp 46) ?_ ⟨x, 1, none⟩ (.agg fs2) ?_ ?_ ((w2.setCell ⟨W.heap.size, 47, none⟩ (.string pt)).setCells x 1 fs2.toList) ?_ ?_; (rfl); (rfl); (rfl); (rfl); (exact h4.out)))
  go_ret3
  refine ⟨rfl, below_setCells hB.out _ _ _ ((HB3.out.mono hBW.out).setCell (p := ⟨W.heap.size, 47, none⟩) hBW.out _), ?_⟩
  have := World.rangeAt_setCells_same (w2.setCell ⟨W.heap.size, 47, none⟩ (.string pt)) x 1 fs2.toList (by rw [Array.length_toList, HF2.out]; exact HX4.out) 47 (.string pt) (by rw [Array.getElem?_toList]; exact H47.out)
  unfold ST
  rw [HPT.out]
  exact this

set_option maxHeartbeats 1000000 in
theorem set_f8 (W : World) (x : Nat) (s : ByteArray) (hSH : Hid (SH W x)) (hA : Hid (Amb W)) (he : Hid ((rd s.data.toList).e = 0)) (hs0 : 0 < s.size) (hl : s.size ≤ 120) (B : Nat) (hB : Hid (B ≤ x)) (hBW : Hid (B ≤ W.heap.size)) :
    Calls Tryd.prog 8 #[.pointer (some ⟨x, 0, none⟩), .string ⟨#[70, 56]⟩, .string s] W fun e w' => e = .returned (.bool true) ∧ (Below B W w' ∧ ST w' x (plT s.data.toList)) := by
  go_enter Tryd.func8, Tryd.ntmps8
  go_wp2_with fail
  have HB1 : Hid (Below W.heap.size W (W.alloc (.cells #[.string ⟨#[70, 56]⟩, .string s] 50))) := (Below.refl _ _).alloc (Nat.le_refl _) _
  have HBK : Hid _ := heap_alloc_new W (.cells #[.string ⟨#[70, 56]⟩, .string s] 50)
  refine (edit_f8 _ x W.heap.size s (hSH.out.below HB1.out) (hA.out.below HB1.out) he hs0 hl (by rw [cell_of_row _ W.heap.size 0 _ 50 (0, 0) HBK.out]; rfl) (by rw [cell_of_row _ W.heap.size 1 _ 50 (0, 0) HBK.out]; rfl) B hB (Nat.le_trans hBW.out HB1.out.size)).mono ?_
  rintro e w1 ⟨rfl, hb1, hst⟩
  have HB2 : Hid (Below B W w1) := (HB1.out.mono hBW.out).trans hb1
  have HST : Hid _ := hst
  clear hb1 hst
  go_wp2_with fail
  go_ret
  exact ⟨rfl, HB2.out, HST.out⟩
end Go.Proofs.YtabcicijjdggdaaDoor
