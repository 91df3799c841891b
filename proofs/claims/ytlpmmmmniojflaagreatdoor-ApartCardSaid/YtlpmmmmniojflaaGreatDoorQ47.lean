/- Texts put together. -/
import Derived.Test.YtlpmmmmniojflaaGreatDoorQ46
import Derived.Test.YtlpmmmmniojflaaGreatDoorVd
/- The statement's own 'formula', one deeper: the way with an operator, whose region draws its order. -/
attribute [local go_sem ↓] Go.wp_at_zero Go.wp_at_succ
namespace Go.Proofs.YtlpmmmmniojflaaGreatDoor
open Go.RowKit
set_option maxHeartbeats 4000000 in
set_option maxRecDepth 100000 in
theorem op_walk (w0 : World) (fb deep j q : Nat) (hq : 5 < q) (hq9 : q < 9) (f0 f1 f2 f3 f4 : List UInt8) (a c o s1 s2 s3 s4 s5 s6 : ByteArray)
    (hj : #[Value.string ⟨#[43]⟩, .string ⟨#[45]⟩, .string ⟨#[42]⟩, .string ⟨#[47]⟩, .string ⟨#[38]⟩][j]? = some (.string o)) (hj0 : (0 : Int) ≤ (j : Int)) (hj2 : (j : Int) < 5)
    (cA : CallR 16 #[.pointer (some ⟨fb, 0, none⟩), .int .i64 deep] w0 fb f1 f2 (.string a))
    (cN : CallR 17 #[.pointer (some ⟨fb, 0, none⟩), .int .i64 5] w0 fb f2 f3 (.int .i64 j))
    (cB : CallR 16 #[.pointer (some ⟨fb, 0, none⟩), .int .i64 deep] w0 fb f3 f4 (.string c))
    (h1 : ∀ w, (Op.stringOp .add ⟨#[40]⟩ a).run Tryz.prog w = .ok (.string s1) w)
    (h2 : ∀ w, (Op.stringOp .add s1 ⟨#[41, 32]⟩).run Tryz.prog w = .ok (.string s2) w)
    (h3 : ∀ w, (Op.stringOp .add s2 o).run Tryz.prog w = .ok (.string s3) w)
    (h4 : ∀ w, (Op.stringOp .add s3 ⟨#[32, 40]⟩).run Tryz.prog w = .ok (.string s4) w)
    (h5 : ∀ w, (Op.stringOp .add s4 c).run Tryz.prog w = .ok (.string s5) w)
    (h6 : ∀ w, (Op.stringOp .add s5 ⟨#[41]⟩).run Tryz.prog w = .ok (.string s6) w)
    (w : World) (hd : deep ≤ 3)
    (c9 : CallR 17 #[.pointer (some ⟨fb, 0, none⟩), .int .i64 9] w0 fb f0 f1 (.int .i64 q)) (hw : Hid (Below w0.heap.size w0 w)) (hf : Hid (FD w w0.heap.size fb f0)) :
    Calls Tryz.prog 16 #[.pointer (some ⟨fb, 0, none⟩), .int .i64 (deep + 1 : Nat)] w fun e w' => e = .returned (.string s6) ∧ w.grownBy w' (some fb) ∧ FD w' w0.heap.size fb f4 := by
  have hda : ((deep : Int) + 1 == 0) = false := by simpa using (by omega : (deep : Int) + 1 ≠ 0)
  have hq0 : ((q : Int) == 0) = false := by simpa using (by omega : (q : Int) ≠ 0)
  have hq1 : ((q : Int) == 1) = false := by simpa using (by omega : (q : Int) ≠ 1)
  have hq2 : ((q : Int) == 2) = false := by simpa using (by omega : (q : Int) ≠ 2)
  have hq3 : ((q : Int) == 3) = false := by simpa using (by omega : (q : Int) ≠ 3)
  have hq4 : ((q : Int) == 4) = false := by simpa using (by omega : (q : Int) ≠ 4)
  have hq5 : ((q : Int) == 5) = false := by simpa using (by omega : (q : Int) ≠ 5)
  go_enter Tryz.func16, Tryz.ntmps16
  go_wp2_with fail
  refine (c9 _ hw.out hf.out).mono ?_
  rintro e w1 ⟨rfl, hw1', hf1', hg1'⟩
  have HG1 : Hid _ := hg1'
  have ne1 : w1.heap.size ≠ fb := by have := hf1'.lt; omega
  have hdw : IntKind.i64.wrap (deep : Int) = deep := by rw [IntKind.wrap_i64]; omega
  have hAw : Hid (Below w0.heap.size w0 w1.drew) := hw1'.drew
  have hAf : Hid (FD w1.drew w0.heap.size fb f1) := hf1'.of_heap rfl
  have hAwS : Hid (∀ o, Below w0.heap.size w0 (w1.alloc o).drew) := fun o => (hw1'.alloc hf1'.size o).drew
  have hAfS : Hid (∀ o, FD (w1.alloc o).drew w0.heap.size fb f1) := fun o => (fd_alloc hf1' o).of_heap rfl
  have hnew := fun w : World => new_cell (t := 9) hj w
  clear hw1' hf1' hg1' c9
  go_wp2_with fail
  go_region_with (first
    | (go_at_call 16; refine (cB _ ?_ ?_).mono ?_; (first | with_reducible exact H3.out.1 | with_reducible exact H3.out.1.alloc H3.out.2.1.size _); (first | with_reducible exact H3.out.2.1 | with_reducible exact fd_alloc H3.out.2.1 _); rintro e w4 ⟨rfl, h4⟩; (first | (have c4 := cell_keep j _ h4.2.2 ne3 hj) | (have c4 := cell_far h4.2.2 c3 ne1) | (have c4 := cell_far h4.2.2 c3 ne2) | skip); have H4 : Hid _ := h4; clear h4)
    | (go_at_call 16; refine (cA _ ?_ ?_).mono ?_; (first | with_reducible exact hAw.out | with_reducible exact hAwS.out _); (first | with_reducible exact hAf.out | with_reducible exact hAfS.out _); rintro e w2 ⟨rfl, h2⟩; have ne2 : w2.heap.size ≠ fb := (by have := h2.2.1.lt; omega); (first | (have c2 : w2.cell? ⟨w1.heap.size, j, none⟩ = _ := cell_keepD j _ h2.2.2 ne1 hj) | skip); have H2 : Hid _ := h2; clear h2)
    | (go_at_call 17; refine (cN _ ?_ ?_).mono ?_; (first | with_reducible exact H2.out.1 | with_reducible exact H2.out.1.alloc H2.out.2.1.size _); (first | with_reducible exact H2.out.2.1 | with_reducible exact fd_alloc H2.out.2.1 _); rintro e w3 ⟨rfl, h3⟩; have ne3 : w3.heap.size ≠ fb := (by have := h3.2.1.lt; omega); (first | (have c3 := cell_keep j _ h3.2.2 ne2 hj) | (have c3 := cell_far h3.2.2 c2 ne1) | skip); have H3 : Hid _ := h3; clear h3))
  all_goals
    have k2 : w.grownBy w2 (some fb) := by first | with_reducible exact gb_d HG1.out H2.out.2.2 | with_reducible exact gb_sd HG1.out H2.out.2.2
    have g2 : Hid _ := k2
    clear k2
    have k3 : w.grownBy w3 (some fb) := by first | with_reducible exact gb_trans g2.out H3.out.2.2 | with_reducible exact gb_s g2.out H3.out.2.2
    have g3 : Hid _ := k3
    clear k3
    have k4 : w.grownBy w4 (some fb) := by first | with_reducible exact gb_trans g3.out H4.out.2.2 | with_reducible exact gb_s g3.out H4.out.2.2
    have g4 : Hid _ := k4
    clear k4
    clear h1 h2 h3 h4 h5 h6 hnew cA cN cB hdw hda hAwS hAfS hAw hAf hj hj0 hj2
    go_wp2_with fail
    go_ret
    first | exact ⟨rfl, g4.out, H4.out.2.1⟩ | exact ⟨rfl, gb_al _ g4.out, fd_alloc H4.out.2.1 _⟩
end Go.Proofs.YtlpmmmmniojflaaGreatDoor
/- The statement's own 'formula': the way that compares, out of its walk. -/
namespace Go.Proofs.YtlpmmmmniojflaaGreatDoor
open Go.RowKit
theorem callN (n : Nat) (hn0 : 0 < n) (hn : n ≤ 1000) (w0 : World) (fb : Nat) (f : List UInt8) : CallR 17 #[.pointer (some ⟨fb, 0, none⟩), .int .i64 n] w0 fb f (nx n f).2 (.int .i64 (nx n f).1) := fun W hW hF =>
  (next_any n hn0 hn W w0.heap.size fb f hF).mono fun _ _ ⟨he, hg, hf⟩ => ⟨he, below_gb hW hg hF.size hF.low, hf, hg⟩
theorem callF {deep : Nat} (hs : Fml deep) (w0 : World) (hA : Amb w0) (fb : Nat) (f : List UInt8) : CallR 16 #[.pointer (some ⟨fb, 0, none⟩), .int .i64 deep] w0 fb f (gen deep f).2 (.string ⟨(rnd (gen deep f).1).toArray⟩) := fun W hW hF =>
  (hs w0 W fb f hA hW hF).mono fun _ _ ⟨he, hg, hf⟩ => ⟨he, below_gb hW hg hF.size hF.low, hf, hg⟩
theorem cats {P : Program} (x y : List UInt8) (hx : x.length ≤ 20000) (hy : y.length ≤ 20000) : ∀ w : World, (Op.stringOp .add ⟨x.toArray⟩ ⟨y.toArray⟩).run P w = .ok (.string ⟨(x ++ y).toArray⟩) w := fun w =>
  run_string_add_lists w x y (by omega) (by omega)
theorem fml_cmp (deep : Nat) (hd : deep ≤ 3) (hs : Fml deep) : FmlQ deep 4 := by
  intro w0 w fb fd hA hw0 hF hq
  have hg := gen_cmp deep fd hq
  rw [hg.1, hg.2]
  have c9 := callN 9 (by omega) (by omega) w0 fb fd
  rw [hq] at c9
  have cA := callF hs w0 hA fb (nx 9 fd).2
  have cN := callN 2 (by omega) (by omega) w0 fb (gen deep (nx 9 fd).2).2
  have hjl := nx_lt 2 (by omega) (gen deep (nx 9 fd).2).2
  have cB := callF hs w0 hA fb (nx 2 (gen deep (nx 9 fd).2).2).2
  have lA : (rnd (gen deep (nx 9 fd).2).1).length ≤ 5000 := Nat.le_trans (gen_len deep _) (Ln_small hd)
  have lC : (rnd (gen deep (nx 2 (gen deep (nx 9 fd).2).2).2).1).length ≤ 5000 := Nat.le_trans (gen_len deep _) (Ln_small hd)
  clear hg hq
  generalize (nx 2 (gen deep (nx 9 fd).2).2).1 = j at *
  generalize rnd (gen deep (nx 9 fd).2).1 = A at *
  generalize rnd (gen deep (nx 2 (gen deep (nx 9 fd).2).2).2).1 = C at *
  have hj : #[Value.string ⟨#[60]⟩, .string ⟨#[61]⟩][j]? = some (.string ⟨(cmp2 j).toArray⟩) := by
    rcases (show j = 0 ∨ j = 1 by omega) with rfl | rfl <;> rfl
  have lj : (cmp2 j).length = 1 := by unfold cmp2; split <;> rfl
  exact cmp_walk w0 fb deep j fd _ _ _ _ ⟨A.toArray⟩ ⟨C.toArray⟩ ⟨(cmp2 j).toArray⟩ _ _ _ _ _ _ hj (by omega) (by omega) cA cN cB
    (cats [40] A (by simp) (by omega)) (cats _ [32] (by simp; omega) (by simp)) (cats _ (cmp2 j) (by simp; omega) (by omega)) (cats _ [32] (by simp; omega) (by simp)) (cats _ C (by simp; omega) (by omega)) (cats _ [41] (by simp; omega) (by simp))
    w hd c9 hw0 hF
end Go.Proofs.YtlpmmmmniojflaaGreatDoor
/- The statement's own 'formula', at every depth that is asked. -/
namespace Go.Proofs.YtlpmmmmniojflaaGreatDoor
open Go.RowKit
theorem fml_op (deep q : Nat) (hq5 : 5 < q) (hd : deep ≤ 3) (hs : Fml deep) : FmlQ deep q := by
  intro w0 w fb fd hA hw0 hF hq
  have hg := gen_op deep fd (by omega)
  rw [hg.1, hg.2]
  have hl9 := nx_lt 9 (by omega) fd
  rw [hq] at hl9
  have c9 := callN 9 (by omega) (by omega) w0 fb fd
  rw [hq] at c9
  have cA := callF hs w0 hA fb (nx 9 fd).2
  have cN := callN 5 (by omega) (by omega) w0 fb (gen deep (nx 9 fd).2).2
  have hjl := nx_lt 5 (by omega) (gen deep (nx 9 fd).2).2
  have cB := callF hs w0 hA fb (nx 5 (gen deep (nx 9 fd).2).2).2
  have lA : (rnd (gen deep (nx 9 fd).2).1).length ≤ 5000 := Nat.le_trans (gen_len deep _) (Ln_small hd)
  have lC : (rnd (gen deep (nx 5 (gen deep (nx 9 fd).2).2).2).1).length ≤ 5000 := Nat.le_trans (gen_len deep _) (Ln_small hd)
  clear hg hq
  generalize (nx 5 (gen deep (nx 9 fd).2).2).1 = j at *
  generalize rnd (gen deep (nx 9 fd).2).1 = A at *
  generalize rnd (gen deep (nx 5 (gen deep (nx 9 fd).2).2).2).1 = C at *
  have hj : #[Value.string ⟨#[43]⟩, .string ⟨#[45]⟩, .string ⟨#[42]⟩, .string ⟨#[47]⟩, .string ⟨#[38]⟩][j]? = some (.string ⟨(op5 j).toArray⟩) := by
    rcases (show j = 0 ∨ j = 1 ∨ j = 2 ∨ j = 3 ∨ j = 4 by omega) with rfl | rfl | rfl | rfl | rfl <;> rfl
  have lj := op5_len j
  exact op_walk w0 fb deep j q hq5 hl9 fd _ _ _ _ ⟨A.toArray⟩ ⟨C.toArray⟩ ⟨(op5 j).toArray⟩ _ _ _ _ _ _ hj (by omega) (by omega) cA cN cB
    (cats [40] A (by simp) (by omega)) (cats _ [41, 32] (by simp; omega) (by simp)) (cats _ (op5 j) (by simp; omega) (by omega)) (cats _ [32, 40] (by simp; omega) (by simp)) (cats _ C (by simp; omega) (by omega)) (cats _ [41] (by simp; omega) (by simp))
    w hd c9 hw0 hF
theorem fml_succ (deep : Nat) (hd : deep ≤ 3) (hs : Fml deep) : Fml (deep + 1) := by
  intro w0 w fb fd hA hw hF
  rcases (show (nx 9 fd).1 = 0 ∨ (nx 9 fd).1 = 1 ∨ (nx 9 fd).1 = 2 ∨ (nx 9 fd).1 = 3 ∨ (nx 9 fd).1 = 4 ∨ (nx 9 fd).1 = 5 ∨ 5 < (nx 9 fd).1 by omega) with h | h | h | h | h | h | h
  · exact fml_if deep hd hs w0 w fb fd hA hw hF h
  · exact fml_at deep hd w0 w fb fd hA hw hF h
  · exact fml_bad deep hd hs w0 w fb fd hA hw hF h
  · exact fml_rng deep hd w0 w fb fd hA hw hF h
  · exact fml_cmp deep hd hs w0 w fb fd hA hw hF h
  · exact fml_neg deep hd w0 w fb fd hA hw hF h
  · exact fml_op deep _ h hd hs w0 w fb fd hA hw hF rfl
theorem fml_all : ∀ d, d ≤ 2 → Fml d
  | 0, _ => fml0
  | d + 1, h => fml_succ d (by omega) (fml_all d (by omega))
end Go.Proofs.YtlpmmmmniojflaaGreatDoor
/- Plain mathematics: the texts that are made of raw bytes; a batch of them. -/
set_option linter.unusedVariables false
set_option linter.unusedSimpArgs false
namespace Go.Proofs.YtlpmmmmniojflaaGreatDoor
def okT (t : Tk) : Bool := tokB t && decide (t.p = 0)
theorem okT_np {t : Tk} (h : okT t = true) : np t = t := by
  unfold okT at h
  simp only [Bool.and_eq_true, decide_eq_true_eq] at h
  obtain ⟨k, x, p⟩ := t
  have : p = 0 := h.2
  subst this
  rfl
theorem okT_tok {t : Tk} (h : okT t = true) : tokB t = true := by
  unfold okT at h
  simp only [Bool.and_eq_true] at h
  exact h.1
theorem okt_num {u : Nat} (h : u < 200) : okT (tNum (Lib.decDigits u)) = true := by
  unfold okT
  rw [(dec_big u (by omega)).2.2]; rfl
theorem ok_text (n : Nat) : okT (tText (texts n)) = true := by
  unfold texts
  repeat' split
  all_goals decide
theorem ok_cell (n : Nat) : okT (tCell n) = true := by
  unfold okT tokB tCell tk
  simp
theorem ok_op (n : Nat) : okT (tOp n) = true := by
  unfold tOp
  repeat' split
  all_goals decide
theorem ok_cmp (n : Nat) : okT (tCmp n) = true := by
  unfold tCmp
  repeat' split
  all_goals decide
theorem ok_ranges (n : Nat) : ∀ t ∈ ranges n, okT t = true := by
  rw [← List.all_eq_true]
  unfold ranges
  repeat' split
  all_goals kernel_rfl
theorem ok_ats (j q : Nat) : ∀ t ∈ ats j q, okT t = true := by
  unfold ats
  split
  · rw [← List.all_eq_true]; kernel_rfl
  · split
    · rw [← List.all_eq_true]; kernel_rfl
    · intro t ht
      rw [List.mem_singleton] at ht
      rw [ht]; exact ok_cell q
theorem ok_cons {t : Tk} {l : List Tk} (h : okT t = true) (hl : ∀ t ∈ l, okT t = true) : ∀ u ∈ t :: l, okT u = true := by
  intro u hu
  rcases List.mem_cons.1 hu with rfl | hu
  · exact h
  · exact hl u hu
theorem ok_app {a b : List Tk} (ha : ∀ t ∈ a, okT t = true) (hb : ∀ t ∈ b, okT t = true) : ∀ u ∈ a ++ b, okT u = true := by
  intro u hu
  rcases List.mem_append.1 hu with hu | hu
  · exact ha u hu
  · exact hb u hu
theorem ok_nil : ∀ t ∈ ([] : List Tk), okT t = true := fun _ h => by cases h
theorem gen_tok : ∀ (deep : Nat) (fd : List UInt8), ∀ t ∈ (gen deep fd).1, okT t = true
  | 0, fd => by
    unfold gen
    split
    · exact ok_cons (okt_num (nx_lt 200 (by omega) _)) ok_nil
    · split
      · exact ok_cons (ok_text _) ok_nil
      · split
        · refine ok_cons ?_ ok_nil
          repeat' split
          all_goals decide
        · exact ok_cons (ok_cell _) ok_nil
  | deep + 1, fd => by
    have ih := gen_tok deep
    unfold gen
    split
    · exact ok_cons (by decide) (ok_cons (by decide) (ok_app (ok_app (ih _) (ok_cons (by decide) (ok_app (ih _) (ok_cons (by decide) (ih _))))) (ok_cons (by decide) ok_nil)))
    · split
      · exact ok_cons (by decide) (ok_cons (by decide) (ok_app (ok_ats _ _) (ok_cons (by decide) ok_nil)))
      · split
        · exact ok_cons (by decide) (ok_cons (by decide) (ok_app (ih _) (ok_cons (by decide) ok_nil)))
        · split
          · exact ok_ranges _
          · split
            · exact ok_cons (by decide) (ok_app (ok_app (ih _) (ok_cons (ok_cmp _) (ih _))) (ok_cons (by decide) ok_nil))
            · split
              · exact ok_cons (by decide) (ok_cons (ok_cell _) ok_nil)
              · exact ok_app (ok_cons (by decide) (ok_app (ih _) (ok_cons (by decide) ok_nil))) (ok_cons (ok_op _) (ok_cons (by decide) (ok_app (ih _) (ok_cons (by decide) ok_nil))))
theorem map_np {g : List Tk} (h : ∀ t ∈ g, okT t = true) : g.map np = g := by
  induction g with
  | nil => rfl
  | cons t r ih => rw [List.map_cons, okT_np (h t List.mem_cons_self), ih (fun u hu => h u (List.mem_cons_of_mem _ hu))]
def gT (deep : Nat) (fd : List UInt8) : ByteArray := ⟨(rnd (gen deep fd).1).toArray⟩
theorem txt_gT {deep : Nat} {fd : List UInt8} (hd : deep ≤ 2) (hl : (rnd (gen deep fd).1).length ≤ 120) : ∃ d, TxtOK (gT deep fd) d := by
  obtain ⟨d, hcg⟩ := gen_cg deep fd
  exact ⟨d, txt_gen (gen_fg deep fd).1 (by omega) (fun t ht => okT_tok (gen_tok deep fd t ht)) (map_np (gen_tok deep fd)) hl (cg_lift (by omega) hcg)⟩
def bE (fd : List UInt8) : (ByteArray × ByteArray) × List UInt8 :=
  if (nx 6 (nx 12 fd).2).1 = 0 then ((⟨(nmT (nx 12 fd).1).toArray⟩, eB), (nx 6 (nx 12 fd).2).2)
  else ((⟨(nmT (nx 12 fd).1).toArray⟩, gT (nx 3 (nx 6 (nx 12 fd).2).2).1 (nx 3 (nx 6 (nx 12 fd).2).2).2), (gen (nx 3 (nx 6 (nx 12 fd).2).2).1 (nx 3 (nx 6 (nx 12 fd).2).2).2).2)
def bL : Nat → List UInt8 → List (ByteArray × ByteArray)
  | 0, _ => []
  | n + 1, fd => (bE fd).1 :: bL n (bE fd).2
def bB (fd : List UInt8) : List (ByteArray × ByteArray) := bL (1 + (nx 4 fd).1) (nx 4 fd).2
theorem bL_len : ∀ (n : Nat) (fd : List UInt8), (bL n fd).length = n
  | 0, _ => rfl
  | n + 1, fd => by show (bL n (bE fd).2).length + 1 = n + 1; rw [bL_len n]
theorem bB_len (fd : List UInt8) : (bB fd).length ≤ 4 := by
  unfold bB
  rw [bL_len]
  have := nx_lt 4 (by omega) fd
  omega
def EdOK (e : ByteArray × ByteArray) : Prop := ∃ c, c < 12 ∧ e.1 = ⟨(nmT c).toArray⟩ ∧ (e.2 = eB ∨ ∃ deep fd, deep ≤ 2 ∧ e.2 = gT deep fd)
theorem bE_ok (fd : List UInt8) : EdOK (bE fd).1 := by
  unfold bE
  split
  · exact ⟨_, nx_lt 12 (by omega) fd, rfl, .inl rfl⟩
  · exact ⟨_, nx_lt 12 (by omega) fd, rfl, .inr ⟨_, _, by have := nx_lt 3 (by omega) (nx 6 (nx 12 fd).2).2; omega, rfl⟩⟩
theorem bL_ok : ∀ (n : Nat) (fd : List UInt8), ∀ e ∈ bL n fd, EdOK e
  | 0, _, e, h => by cases h
  | n + 1, fd, e, h => by
    rcases List.mem_cons.1 h with rfl | h
    · exact bE_ok fd
    · exact bL_ok n _ e h
theorem gT_size (deep : Nat) (fd : List UInt8) (hd : deep ≤ 2) : (gT deep fd).size ≤ 100000 := by
  have h1 : (rnd (gen deep fd).1).length ≤ 5000 := Nat.le_trans (gen_len deep _) (Ln_small (by omega))
  show (rnd (gen deep fd).1).toArray.size ≤ 100000
  simp; omega
def GenT (t : ByteArray) : Prop := ∃ deep fd, deep ≤ 2 ∧ t = gT deep fd ∧ ∃ d, TxtOK t d
structure PlayR (fs fs' : Nat → ByteArray) : Prop where
  far : ∀ c, 12 ≤ c → fs' c = fs c
  near : ∀ c, fs' c = fs c ∨ fs' c = eB ∨ GenT (fs' c)
theorem PlayR.refl (fs : Nat → ByteArray) : PlayR fs fs := ⟨fun _ _ => rfl, fun _ => .inl rfl⟩
theorem PlayR.trans {a b c : Nat → ByteArray} (h : PlayR a b) (k : PlayR b c) : PlayR a c :=
  ⟨fun i hi => (k.far i hi).trans (h.far i hi), fun i => by
    rcases k.near i with g | g | g
    · rcases h.near i with f | f | f
      · exact .inl (g.trans f)
      · exact .inr (.inl (g.trans f))
      · exact .inr (.inr (by rw [g]; exact f))
    · exact .inr (.inl g)
    · exact .inr (.inr g)⟩
theorem PlayR.ft {fs fs' : Nat → ByteArray} (h : PlayR fs fs') (hf : FsT fs) : FsT fs' := by
  refine ⟨fun c hc => ?_, fun c hc => by rw [h.far c (by omega)]; exact hf.out c hc⟩
  rcases h.near c with g | g | ⟨_, _, _, _, g⟩
  · rw [g] at hc ⊢; exact hf.t c hc
  · exact absurd g hc
  · exact g
theorem cell_nmT {c : Nat} (h : c < 12) : cellN (⟨(nmT c).toArray⟩ : ByteArray).data.toList = some c := by
  have := cellN_name (n := c) (by omega)
  exact this
theorem long_rd {l : List UInt8} (h : 120 < l.length) : (rd l).e = 1 := by
  unfold rd
  rw [if_pos h]
theorem ed_batch : ∀ (es : List (ByteArray × ByteArray)) (i : Nat) (fs : Nat → ByteArray), (∀ e ∈ es, EdOK e) → ((edR bd0 i es fs).e = 0 ∧ PlayR fs (edR bd0 i es fs).fs) ∨ (edR bd0 i es fs).e = 1
  | [], i, fs, _ => .inl ⟨rfl, PlayR.refl fs⟩
  | (cl, tx) :: es, i, fs, h => by
    obtain ⟨c, hc, e1, e2⟩ := h (cl, tx) List.mem_cons_self
    have e1 : cl = ⟨(nmT c).toArray⟩ := e1
    have e2 : tx = eB ∨ ∃ deep fd, deep ≤ 2 ∧ tx = gT deep fd := e2
    subst e1
    have hcell := cell_nmT hc
    have tl : ∀ fs1, PlayR fs fs1 → ((edR bd0 (i + 1) es fs1).e = 0 ∧ PlayR fs (edR bd0 (i + 1) es fs1).fs) ∨ (edR bd0 (i + 1) es fs1).e = 1 := fun fs1 h1 => by
      rcases ed_batch es (i + 1) fs1 (fun e he => h e (List.mem_cons_of_mem _ he)) with ⟨g1, g2⟩ | g
      · exact .inl ⟨g1, h1.trans g2⟩
      · exact .inr g
    rcases e2 with rfl | ⟨deep, fd, hd, rfl⟩
    · have hck : ckP bd0 ⟨(nmT c).toArray⟩ eB = ⟨0, 0, c, eB⟩ := by
        unfold ckP
        rw [hcell]
        simp only
        rw [if_pos trivial]
      have e : edR bd0 i ((⟨(nmT c).toArray⟩, eB) :: es) fs = edR bd0 (i + 1) es (updF fs c eB) := by
        rw [edR]
        simp only [hck]
        rfl
      rw [e]
      refine tl _ ⟨fun j hj => ?_, fun j => ?_⟩
      · unfold updF; rw [if_neg (by omega)]
      · unfold updF
        split
        · exact .inr (.inl rfl)
        · exact .inl rfl
    · by_cases hl : (rnd (gen deep fd).1).length ≤ 120
      · obtain ⟨d, ht⟩ := txt_gT hd hl
        have hck := ck_txt hcell ht.ne ht.e
        rw [ht.pl] at hck
        have e : edR bd0 i ((⟨(nmT c).toArray⟩, gT deep fd) :: es) fs = edR bd0 (i + 1) es (updF fs c (gT deep fd)) := by
          rw [edR]
          simp only [hck]
          rfl
        rw [e]
        refine tl _ ⟨fun j hj => ?_, fun j => ?_⟩
        · unfold updF; rw [if_neg (by omega)]
        · unfold updF
          split
          · exact .inr (.inr ⟨deep, fd, hd, rfl, d, ht⟩)
          · exact .inl rfl
      · right
        have hr : (rd (gT deep fd).data.toList).e = 1 := long_rd (by show 120 < (rnd (gen deep fd).1).length; omega)
        have hne : gT deep fd ≠ eB := fun e => by
          rw [e] at hr
          exact absurd hr (by decide)
        have hck : (ckP bd0 ⟨(nmT c).toArray⟩ (gT deep fd)).e = 1 := by
          unfold ckP
          rw [hcell]
          simp only
          rw [if_neg hne, if_pos (by rw [hr]; decide)]
          exact hr
        rw [edR, if_pos (by simp only [hck]; decide)]
        exact hck
end Go.Proofs.YtlpmmmmniojflaaGreatDoor
/- Plain mathematics: what comes of the statement Choice. -/
set_option linter.unusedVariables false
set_option linter.unusedSimpArgs false
namespace Go.Proofs.YtlpmmmmniojflaaGreatDoor
section
variable {E : Env} {left : Bool} {n : Nat} {o : ByteArray} {val : Nat → V}
end
end Go.Proofs.YtlpmmmmniojflaaGreatDoor
/- Plain mathematics: which cells are begun in the statement Choice. -/
set_option linter.unusedVariables false
set_option linter.unusedSimpArgs false
namespace Go.Proofs.YtlpmmmmniojflaaGreatDoor
theorem KInv.rs {E : Env} {fs : Nat → ByteArray} {k : Kp} (hk : KInv E fs k) {c : Nat} (h0 : fs c ≠ eB) {rs : List Rd} (ht : Tr (E.D (fs c)) rs) {v : V} (hv : E.D (fs c) (ws rs) = .inl v) (hh : Hold (fun c => (k.last c).v) rs) (hc : (k.last c).v ≠ cyc) : (k.last c).rs = rs := by
  obtain ⟨⟨_, g1, g2, _⟩, g4⟩ := hk.good c h0 hc
  rw [hk.f c] at g1 g2
  refine (tr_same _ _ _ _ _ g1 ht g2 hv fun r hr r' hr' e => ?_).1
  rw [(g4 r hr).1, (hh r' hr').1, e]
section
variable {E : Env} {left : Bool} {n : Nat} {k1 k2 : Kp} {o2 w2 : Nat} {bg2 : List Nat}
end
end Go.Proofs.YtlpmmmmniojflaaGreatDoor
/- Names of the first column, small numbers; calls on a sheet whose answer is known. -/
set_option linter.unusedVariables false
set_option linter.unusedSimpArgs false
namespace Go.Proofs.YtlpmmmmniojflaaGreatDoor
open Go.RowKit
section
variable {E : Env} {w0 w w' : World} {x : Nat} {fl fs : Nat → ByteArray} {k k' : Kp}
end
end Go.Proofs.YtlpmmmmniojflaaGreatDoor
/- Work over a sheet's state; small numbers. -/
set_option linter.unusedVariables false
set_option linter.unusedSimpArgs false
namespace Go.Proofs.YtlpmmmmniojflaaGreatDoor
open Go.RowKit
section
variable {E : Env} {w0 w w' : World} {x : Nat} {fl fs : Nat → ByteArray} {k k' : Kp}
theorem Slc.bel {v : Value} {e s n : Nat} {l : List Value} (h : Slc w e s v n l) (hb : Below w.heap.size w w') : Slc w' e s v n l := h.kept fun g hg => hb.block g (h.lt g hg)
end
theorem lt_c {i n : Nat} (h : i < n) : (i : Int) < (n : Int) := by omega
theorem ge_c {i n : Nat} (h : ¬ i < n) : ¬ (i : Int) < (n : Int) := by omega
end Go.Proofs.YtlpmmmmniojflaaGreatDoor
/- The statement's own 'batch', walked. -/
set_option linter.unusedVariables false
set_option linter.unusedSimpArgs false
namespace Go.Proofs.YtlpmmmmniojflaaGreatDoor
open Go.RowKit
theorem info68b : (Tryz.prog.info? 68).map (fun i => (i.zero, i.size, i.bytes)) = some (some (.agg #[.string ⟨#[]⟩, .string ⟨#[]⟩]), 2, 32) := by kernel_rfl
theorem gb_new {a b c : World} {fb : Nat} {row : Option Nat} (h : a.grownBy b (some fb)) (hg : b.grownBy c row) (hrow : ∀ g, row = some g → a.heap.size ≤ g) : a.grownBy c (some fb) :=
  ⟨hg.os.trans h.os, hg.tape.trans h.tape, hg.output.trans h.output, Nat.le_trans h.size hg.size, fun i hi hr => (hg.block i (Nat.lt_of_lt_of_le hi h.size) (fun e => absurd (hrow i e.symm) (Nat.not_le_of_lt hi))).trans (h.block i hi hr)⟩
theorem FD.kept {w w' : World} {B fb : Nat} {fd : List UInt8} (h : FD w B fb fd) (e : w'.heap[fb]? = w.heap[fb]?) : FD w' B fb fd := by
  obtain ⟨raw, at_, h1, h2⟩ := h.blk
  exact ⟨⟨raw, at_, by rw [e]; exact h1, h2⟩, h.low⟩
theorem FD.grown {w w' : World} {B fb : Nat} {fd : List UInt8} {row : Option Nat} (h : FD w B fb fd) (hg : w.grownBy w' row) (hrow : row ≠ some fb) : FD w' B fb fd := h.kept (hg.block fb h.lt (fun e => hrow e.symm))
theorem two_cells {w : World} {b : Nat} {x y : Value} {t : TypeId} (h : w.heap[b]? = some (.cells #[x, y] t (0, 0))) : w.cell? ⟨b, 0, none⟩ = some x ∧ w.cell? ⟨b, 1, none⟩ = some y ∧ w.frozen? ⟨b, 0, none⟩ = false ∧ w.frozen? ⟨b, 1, none⟩ = false :=
  ⟨by simp [World.cell?, h], by simp [World.cell?, h], by simp [World.frozen?, h], by simp [World.frozen?, h]⟩
theorem btSum {m k : Nat} (h : 1 + k = m) (hk : k < 4) : IntKind.i64.wrap (1 + (k : Int)) = (m : Int) ∧ wrap64 (1 + (k : Int)) = (m : Int) := ⟨by rw [IntKind.wrap_i64]; omega, by unfold wrap64; omega⟩
theorem btPrev {m k : Nat} (h : m = k + 1) (hk : m ≤ 4) : IntKind.i64.wrap ((m : Int) - 1) = (k : Int) ∧ wrap64 ((m : Int) - 1) = (k : Int) ∧ (0 : Int) < (m : Int) := ⟨by rw [IntKind.wrap_i64]; omega, by unfold wrap64; omega, by omega⟩
theorem pos_c {k : Nat} (h : k ≠ 0) : (0 : Int) < (k : Int) := by omega
theorem len_small {n : Nat} (h : n ≤ 4) : n + 1 ≤ maxLen ∧ (n + 1) * 32 ≤ 140737488355328 := by unfold maxLen; omega
structure BtS (w0 w : World) (fb : Nat) (fd : List UInt8) (wr : World) (v : Value) (m : Nat) (es : List (ByteArray × ByteArray)) (f : List UInt8) : Prop where
  mB : m ≤ 4
  nB : es.length ≤ 4
  eB' : es ++ bL m f = bB fd
  sB : Slc wr 68 2 v es.length (es.flatMap edC)
  oB : ∀ g, v.ownBlock = some g → w.heap.size ≤ g
  gB : w.grownBy wr (some fb)
  fB : FD wr w0.heap.size fb f
theorem BtS.lt {w0 w : World} {fb : Nat} {fd : List UInt8} {wr : World} {v : Value} {m : Nat} {es : List (ByteArray × ByteArray)} {f : List UInt8} (h : BtS w0 w fb fd wr v m es f) (hf : fb < w.heap.size) {w1 : World} (h1 : wr.grownBy w1 (some fb)) : Slc w1 68 2 v es.length (es.flatMap edC) :=
  h.sB.grown h1 (by
    cases hv : v.ownBlock with
    | none => exact .inl rfl
    | some g => exact .inr (fun e => by cases e; exact absurd (h.oB fb hv) (Nat.not_le_of_lt hf)))
theorem BtS.next {w0 w : World} {fb : Nat} {fd : List UInt8} {wr : World} {v v' : Value} {m : Nat} {es : List (ByteArray × ByteArray)} {f : List UInt8} (h : BtS w0 w fb fd wr v (m + 1) es f) (hf : fb < w.heap.size) {w4 w8 : World} (h4 : wr.grownBy w4 (some fb)) (hF : FD w4 w0.heap.size fb (bE f).2)
    (hs : Slc w8 68 2 v' (es.length + 1) (es.flatMap edC ++ edC (bE f).1)) (hg : w4.grownBy w8 v.ownBlock) (ho : v'.ownBlock = v.ownBlock ∨ ∃ g, v'.ownBlock = some g ∧ w.heap.size ≤ g) : BtS w0 w fb fd w8 v' m (es ++ [(bE f).1]) (bE f).2 := by
  have hrow : ∀ g, v.ownBlock = some g → w.heap.size ≤ g := h.oB
  have hl : (bL (m + 1) f).length = m + 1 := bL_len _ _
  have htot := bB_len fd
  rw [← h.eB', List.length_append, hl] at htot
  refine ⟨by have := h.mB; omega, by rw [List.length_append]; show es.length + 1 ≤ 4; omega, ?_, ?_, ?_, gb_new (gb_trans h.gB h4) hg hrow, hF.grown hg (fun e => absurd (hrow fb e) (Nat.not_le_of_lt hf))⟩
  · rw [← h.eB', List.append_assoc]; rfl
  · rw [List.length_append, List.flatMap_append, List.flatMap_cons, List.flatMap_nil, List.append_nil]; exact hs
  · intro g hv
    rcases ho with e | ⟨g', e, hg'⟩
    · rw [e] at hv; exact hrow g hv
    · rw [e] at hv; cases hv
      exact hg'
set_option maxRecDepth 100000 in
set_option maxHeartbeats 4000000 in
theorem batch_w (w0 w : World) (fb : Nat) (fd : List UInt8) (hA : Hid (Amb w0)) (hb : Hid (Below w0.heap.size w0 w)) (hF : Hid (FD w w0.heap.size fb fd)) :
    Calls Tryz.prog 51 #[.pointer (some ⟨fb, 0, none⟩)] w fun e w' => ∃ v, e = .returned v ∧ Hid (Slc w' 68 2 v (bB fd).length ((bB fd).flatMap edC) ∧ (∀ g, v.ownBlock = some g → w.heap.size ≤ g) ∧ w.grownBy w' (some fb)) := by
  obtain ⟨i0, hi, hz0, hz1, hz2⟩ := info_parts info68b
  have HFB : Hid (fb < w.heap.size) := hF.out.lt
  have HBL : Hid (w0.heap.size ≤ fb) := hF.out.low
  obtain ⟨k, hk⟩ : ∃ k, (nx 4 fd).1 = k := ⟨_, rfl⟩
  obtain ⟨m0, hm0⟩ : ∃ m, 1 + k = m := ⟨_, rfl⟩
  have hk4 : k < 4 := by rw [← hk]; exact nx_lt 4 (by omega) fd
  have HK : Hid ((nx 4 fd).1 = k) := hk
  have HM0 : Hid (m0 ≤ 4 ∧ bL m0 (nx 4 fd).2 = bB fd) := ⟨by omega, by unfold bB; rw [hk, hm0]⟩
  obtain ⟨s1, s2⟩ := btSum hm0 hk4
  clear hk hm0 hk4
  go_enter Tryz.func51, Tryz.ntmps51
  go_wp2_with fail
  refine (next_any 4 (by omega) (by omega) _ w0.heap.size fb fd hF).mono ?_
  rintro e w1 ⟨rfl, g1, f1⟩
  rw [HK.out]
  have H1 : Hid (BtS w0 w fb fd w1 (.slice none 0 0) m0 [] (nx 4 fd).2) := ⟨HM0.out.1, Nat.zero_le _, by rw [List.nil_append]; exact HM0.out.2, slc_nil _ _ _, (fun g h => by cases h), g1, f1⟩
  clear g1 f1 HM0
  go_wp2_with fail
  clear s1 s2
  go_loopw [3, 4] (fun v s wr => ∃ (m : Nat) (es : List (ByteArray × ByteArray)) (f : List UInt8), s = .int .i64 m ∧ Hid (BtS w0 w fb fd wr v m es f)) (fun _ s _ => (intOf s).toNat)
  case atStart => exact ⟨m0, [], _, rfl, H1⟩
  case round =>
    obtain ⟨m, es, f, rfl, HS⟩ := hrel
    clear H1
    by_cases hm : m = 0
    · subst hm
      go_wp2_with fail
      go_ret
      have h := HS.out
      have he : es = bB fd := by rw [← h.eB']; show es = es ++ []; rw [List.append_nil]
      exact ⟨_, rfl, by rw [← he]; exact h.sB, h.oB, h.gB⟩
    · obtain ⟨m1, hm1⟩ : ∃ k, m = k + 1 := ⟨m - 1, by omega⟩
      obtain ⟨p1, p2, p3⟩ := btPrev hm1 HS.out.mB
      have HS' := HS
      rw [hm1] at HS'
      obtain ⟨l1, l2⟩ := len_small HS.out.nB
      have HL1 : Hid (es.length + 1 ≤ maxLen) := l1
      have HL2 : Hid ((es.length + 1) * 32 ≤ 140737488355328) := l2
      have HMM : Hid (m = m1 + 1) := hm1
      clear hm hm1 HS l1 l2
      go_wp2_with fail
      refine (few_any wr w0.heap.size fb f HS'.out.fB).mono ?_
      rintro e w2 ⟨rfl, g2, f2⟩
      obtain ⟨cl, hcl⟩ : ∃ cl : ByteArray, ⟨(nmT (nx 12 f).1).toArray⟩ = cl := ⟨_, rfl⟩
      have HCL : Hid (⟨(nmT (nx 12 f).1).toArray⟩ = cl) := hcl
      rw [hcl]
      have HG2 : Hid (wr.grownBy w2 (some fb)) := g2
      have HF2 : Hid (FD w2 w0.heap.size fb (nx 12 f).2) := f2
      clear g2 f2 hcl
      go_wp2_with fail
      have HQ3 : Hid ((w2.alloc (.cells #[.string cl, .string ⟨#[]⟩] 68)).heap[w2.heap.size]? = some (.cells #[.string cl, .string ⟨#[]⟩] 68 (0, 0))) := rnew _ _ _
      have HG3 : Hid (wr.grownBy (w2.alloc (.cells #[.string cl, .string ⟨#[]⟩] 68)) (some fb)) := gb_al _ HG2.out
      have HF3 : Hid (FD (w2.alloc (.cells #[.string cl, .string ⟨#[]⟩] 68)) w0.heap.size fb (nx 12 f).2) := HF2.out.below (bl1 _ _)
      have HLT : Hid (w2.heap.size < (w2.alloc (.cells #[.string cl, .string ⟨#[]⟩] 68)).heap.size) := (Array.getElem?_eq_some_iff.1 HQ3.out).1
      have HNE : Hid (fb < w2.heap.size) := HF2.out.lt
      have HWB : Hid (wr.heap.size ≤ w2.heap.size) := HG2.out.size
      clear HG2 HF2
      generalize w2.alloc (.cells #[.string cl, .string ⟨#[]⟩] 68) = w3 at *
      generalize w2.heap.size = bk at *
      refine (next_any 6 (by omega) (by omega) _ w0.heap.size fb (nx 12 f).2 HF3).mono ?_
      rintro e w4 ⟨rfl, g4, f4⟩
      obtain ⟨kk, hkk⟩ : ∃ kk, (nx 6 (nx 12 f).2).1 = kk := ⟨_, rfl⟩
      have HKK : Hid ((nx 6 (nx 12 f).2).1 = kk) := hkk
      rw [hkk]
      have HG4 : Hid (wr.grownBy w4 (some fb)) := gb_trans HG3.out g4
      have HF4 : Hid (FD w4 w0.heap.size fb (nx 6 (nx 12 f).2).2) := f4
      have HQ4 : Hid (w4.heap[bk]? = some (.cells #[.string cl, .string ⟨#[]⟩] 68 (0, 0))) := by
        unfold Hid
        rw [g4.block bk HLT.out (fun e => by cases e; exact absurd HNE.out (Nat.lt_irrefl _))]; exact HQ3.out
      clear g4 f4 hkk HG3 HF3 HQ3 HLT
      by_cases hk0 : kk = 0
      · subst hk0
        have HE : Hid ((bE f).1 = (cl, eB) ∧ (bE f).2 = (nx 6 (nx 12 f).2).2) := by unfold Hid bE; rw [if_pos HKK.out, ← HCL.out]; exact ⟨rfl, rfl⟩
        obtain ⟨c0, c1, c2, c3⟩ := two_cells HQ4.out
        go_wp2_with (at_builtin; go_must (refine wpList_append_sl (w := _) rfl _ _ 23 rfl 68 i0 _ 2 32 Tryz.underlying23 hi hz0 hz1 hz2 rfl _ _ _ rfl ((HS'.out.lt HFB.out HG4.out).al _) ⟨w4.heap.size, 0, none⟩ 1 1 [.string cl, .string ⟨#[]⟩] rfl (by decide) rfl ?c1 ?c2 ?c3 ?c4 ?_))
        case c1 =>
          intro j u hj
          match j, hj with
          | 0, hj => simp at hj; subst hj; simp [Addr.add]
          | 1, hj => simp at hj; subst hj; simp [Addr.add]
          | j + 2, hj => simp at hj
        case c2 =>
          intro u hu
          simp only [List.mem_cons, List.not_mem_nil, or_false] at hu
          rcases hu with rfl | rfl <;> rfl
        case c3 => exact HL1.out
        case c4 => exact HL2.out
        intro v' w8 hs8 hg8 ho8
        have HN : Hid (BtS w0 w fb fd w8 v' m1 (es ++ [(bE f).1]) (bE f).2) := HS'.out.next HFB.out (gb_al _ HG4.out) (by rw [HE.out.2]; exact HF4.out.below (bl1 _ _)) (by rw [HE.out.1]; exact hs8) hg8 (by
          rcases ho8 with ⟨e, _⟩ | ⟨e, _⟩
          · exact .inl e
          · exact .inr ⟨_, e, Nat.le_succ_of_le (Nat.le_trans HS'.out.gB.size HG4.out.size)⟩)
        clear hs8 hg8 ho8 c0 c1 c2 c3 HQ4
        go_wp2_with fail
        exact ⟨⟨m1, _, _, rfl, HN⟩, by rw [HMM.out]; show (intOf (.int .i64 (m1 : Int))).toNat < (intOf (.int .i64 ((m1 + 1 : Nat) : Int))).toNat; simp [intOf]⟩
      · have hkp := pos_c hk0
        obtain ⟨dp, hdp⟩ : ∃ d, (nx 3 (nx 6 (nx 12 f).2).2).1 = d := ⟨_, rfl⟩
        have HDP : Hid ((nx 3 (nx 6 (nx 12 f).2).2).1 = dp) := hdp
        have HD2 : Hid (dp ≤ 2) := by unfold Hid; rw [← hdp]; have := nx_lt 3 (by omega) (nx 6 (nx 12 f).2).2; omega
        have HE : Hid ((bE f).1 = (cl, gT dp (nx 3 (nx 6 (nx 12 f).2).2).2) ∧ (bE f).2 = (gen dp (nx 3 (nx 6 (nx 12 f).2).2).2).2) := by unfold Hid bE; rw [if_neg (by rw [HKK.out]; exact hk0), hdp, ← HCL.out]; exact ⟨rfl, rfl⟩
        clear hdp hk0
        go_wp2_with fail
        refine (next_any 3 (by omega) (by omega) _ w0.heap.size fb (nx 6 (nx 12 f).2).2 HF4).mono ?_
        rintro e w5 ⟨rfl, g5, f5⟩
        rw [HDP.out]
        have HG5 : Hid (wr.grownBy w5 (some fb)) := gb_trans HG4.out g5
        have HF5 : Hid (FD w5 w0.heap.size fb (nx 3 (nx 6 (nx 12 f).2).2).2) := f5
        have HQ5 : Hid (w5.heap[bk]? = some (.cells #[.string cl, .string ⟨#[]⟩] 68 (0, 0))) := by
          unfold Hid
          rw [g5.block bk (Array.getElem?_eq_some_iff.1 HQ4.out).1 (fun e => by cases e; exact absurd HNE.out (Nat.lt_irrefl _))]; exact HQ4.out
        clear g5 f5 HG4 HF4 HQ4
        generalize (nx 3 (nx 6 (nx 12 f).2).2).2 = f6 at *
        go_wp2_with fail
        refine (fml_all dp HD2.out w0 _ fb f6 hA.out (below_gb hb.out (gb_trans HS'.out.gB HG5.out) (Nat.le_of_lt (Nat.lt_of_le_of_lt HBL.out HFB.out)) HBL.out) HF5.out).mono ?_
        rintro e w6 ⟨rfl, g6, f6'⟩
        obtain ⟨tx, htx⟩ : ∃ tx : ByteArray, ⟨(rnd (gen dp f6).1).toArray⟩ = tx := ⟨_, rfl⟩
        have HTX : Hid (gT dp f6 = tx) := htx
        rw [htx]
        have HG6 : Hid (wr.grownBy w6 (some fb)) := gb_trans HG5.out g6
        have HF6 : Hid (FD w6 w0.heap.size fb (gen dp f6).2) := f6'
        have HQ6 : Hid (w6.heap[bk]? = some (.cells #[.string cl, .string ⟨#[]⟩] 68 (0, 0))) := by
          unfold Hid
          rw [g6.block bk (Array.getElem?_eq_some_iff.1 HQ5.out).1 (fun e => by cases e; exact absurd HNE.out (Nat.lt_irrefl _))]; exact HQ5.out
        clear g6 f6' htx HG5 HF5 HQ5
        obtain ⟨c0, c1, c2, c3⟩ := two_cells HQ6.out
        obtain ⟨d0, d1, d2, d3⟩ := two_cells (two_setCell (u := .string tx) HQ6.out)
        have HG7 : Hid (wr.grownBy (w6.setCell ⟨bk, 1, none⟩ (.string tx)) (some fb)) := gb_new HG6.out (gb_setCell w6 bk 1 (.string tx)) (fun g hg => by cases hg; exact HWB.out)
        have HS7 : Hid (Slc (w6.setCell ⟨bk, 1, none⟩ (.string tx)) 68 2 u3 es.length (es.flatMap edC)) := HS'.out.lt HFB.out HG7.out
        have HF7 : Hid (FD (w6.setCell ⟨bk, 1, none⟩ (.string tx)) w0.heap.size fb (gen dp f6).2) := HF6.out.kept (Below.heap_setCell _ _ _ _ (Nat.ne_of_lt HNE.out))
        have hsz7 : (w6.setCell ⟨bk, 1, none⟩ (.string tx)).heap.size = w6.heap.size := by simp
        obtain ⟨e0, e1, _, _⟩ := two_cells (rnew (w6.setCell ⟨bk, 1, none⟩ (.string tx)) #[.string cl, .string tx] 68)
        rw [hsz7] at e0 e1
        have HE0 : Hid _ := e0
        have HE1 : Hid _ := e1
        clear HG6 HF6 HQ6 e0 e1
        go_wp2_with (at_builtin; go_must (refine wpList_append_sl (w := _) rfl _ _ 23 rfl 68 i0 _ 2 32 Tryz.underlying23 hi hz0 hz1 hz2 rfl _ _ _ rfl (HS7.out.al _) ⟨w6.heap.size, 0, none⟩ 1 1 [.string cl, .string tx] rfl (by decide) rfl ?c1 ?c2 ?c3 ?c4 ?_))
        case c1 =>
          intro j u hj
          match j, hj with
          | 0, hj => simp at hj; subst hj; exact HE0.out
          | 1, hj => simp at hj; subst hj; exact HE1.out
          | j + 2, hj => simp at hj
        case c2 =>
          intro u hu
          simp only [List.mem_cons, List.not_mem_nil, or_false] at hu
          rcases hu with rfl | rfl <;> rfl
        case c3 => exact HL1.out
        case c4 => exact HL2.out
        intro v' w8 hs8 hg8 ho8
        have HN : Hid (BtS w0 w fb fd w8 v' m1 (es ++ [(bE f).1]) (bE f).2) := HS'.out.next HFB.out (gb_al _ HG7.out) (by rw [HE.out.2]; exact HF7.out.below (bl1 _ _)) (by rw [HE.out.1, HTX.out]; exact hs8) hg8 (by
          rcases ho8 with ⟨e, _⟩ | ⟨e, _⟩
          · exact .inl e
          · exact .inr ⟨_, e, Nat.le_succ_of_le (Nat.le_trans HS'.out.gB.size (by have := HG7.out.size; rw [hsz7] at this; exact this))⟩)
        clear hs8 hg8 ho8 c0 c1 c2 c3 d0 d1 d2 d3 hsz7
        go_wp2_with fail
        exact ⟨⟨m1, _, _, rfl, HN⟩, by rw [HMM.out]; show (intOf (.int .i64 (m1 : Int))).toNat < (intOf (.int .i64 ((m1 + 1 : Nat) : Int))).toNat; simp [intOf]⟩
end Go.Proofs.YtlpmmmmniojflaaGreatDoor
/- The statement's own 'play', walked. -/
set_option linter.unusedVariables false
set_option linter.unusedSimpArgs false
namespace Go.Proofs.YtlpmmmmniojflaaGreatDoor
open Go.RowKit
def RawS (w : World) (v : Value) (l : List ByteArray) : Prop :=
  (v = .slice none 0 0 ∧ l = []) ∨ ∃ a cap, v = .slice (some a) l.length cap ∧ l.length ≤ cap ∧ l.length ≤ maxLen ∧ ∀ i s, l[i]? = some s → w.cell? (a.add i) = some (.string s) ∧ s.size ≤ 9223372036854775806
def HowS (w : World) (v : Value) (l : List Int) : Prop :=
  (v = .slice none 0 0 ∧ l = []) ∨ ∃ a cap, v = .slice (some a) l.length cap ∧ l.length ≤ cap ∧ l.length ≤ maxLen ∧ ∀ i s, l[i]? = some s → w.cell? (a.add i) = some (.int .i64 s) ∧ I64 s
def plF : List ByteArray → (Nat → ByteArray) → Nat → ByteArray
  | [], fs => fs
  | s :: l, fs => plF l (if (edR bd0 0 (bB s.data.toList) fs).e = 0 then (edR bd0 0 (bB s.data.toList) fs).fs else fs)
theorem pl_one (s : ByteArray) (fs : Nat → ByteArray) : PlayR fs (if (edR bd0 0 (bB s.data.toList) fs).e = 0 then (edR bd0 0 (bB s.data.toList) fs).fs else fs) := by
  rcases ed_batch (bB s.data.toList) 0 fs (bL_ok _ _) with ⟨g1, g2⟩ | g
  · rw [if_pos g1]; exact g2
  · rw [if_neg (by rw [g]; decide)]; exact PlayR.refl fs
theorem pl_app : ∀ (l : List ByteArray) (s : ByteArray) (fs : Nat → ByteArray), plF (l ++ [s]) fs = (if (edR bd0 0 (bB s.data.toList) (plF l fs)).e = 0 then (edR bd0 0 (bB s.data.toList) (plF l fs)).fs else plF l fs)
  | [], s, fs => rfl
  | a :: l, s, fs => pl_app l s _
theorem bB_sizes (fd : List UInt8) : ∀ e ∈ bB fd, e.2.size ≤ maxLen := fun e he => by
  obtain ⟨c, _, _, h⟩ := bL_ok _ _ e he
  rcases h with h | ⟨d, f, hd, h⟩
  · rw [h]; exact Nat.zero_le _
  · rw [h]; have := gT_size d f hd; unfold maxLen; omega
theorem plNums {i : Nat} (h : i < 20) : IntKind.i64.wrap ((i : Int) + 1) = (i : Int) + 1 ∧ wrap64 ((i : Int) + 1) = (i : Int) + 1 ∧ (i : Int) < 20 ∧ 0 ≤ (i : Int) := ⟨by rw [IntKind.wrap_i64]; omega, by unfold wrap64; omega, by omega, by omega⟩
theorem pl_meas {i : Nat} (h : i < 20) : (100 - ((i + 1 : Nat) : Int)).toNat < (100 - (i : Int)).toNat := by omega
theorem fd_new {w0 w : World} (hb : Below w0.heap.size w0 w) {s : ByteArray} (hs : s.size ≤ 9223372036854775806) : FD (w.alloc (.cells #[.string s, .int .i64 0] 30)) w0.heap.size w.heap.size s.data.toList :=
  ⟨⟨s, 0, rnew _ _ _, Nat.zero_le _, hs, by rw [List.drop_zero]⟩, hb.size⟩
section
variable {E : Env} {w0 w w' : World} {x : Nat} {fl fs : Nat → ByteArray} {k k' : Kp}
theorem ShS.batch (h : ShS E w0 w x fl fs k) {s : ByteArray} (h1 : (edR bd0 0 (bB s.data.toList) fs).e ≠ 0 → Below w.heap.size w w') (h2 : (edR bd0 0 (bB s.data.toList) fs).e = 0 → Only x w w' ∧ SR w' x (edR bd0 0 (bB s.data.toList) fs).fs bd0 k) :
    ShS E w0 w' x fl (if (edR bd0 0 (bB s.data.toList) fs).e = 0 then (edR bd0 0 (bB s.data.toList) fs).fs else fs) k := by
  have hp := pl_one s fs
  by_cases he : (edR bd0 0 (bB s.data.toList) fs).e = 0
  · rw [if_pos he] at hp ⊢
    obtain ⟨g1, g2⟩ := h2 he
    exact ⟨h.bel' g1, h.xB, g2, h.kinv, hp.ft h.ft⟩
  · rw [if_neg he]
    exact h.below (h1 he)
end
theorem takes_next {l : List ByteArray} {i : Nat} {s : ByteArray} (h : l[i]? = some s) : l.take (i + 1) = l.take i ++ [s] := by rw [List.take_add_one, h]; rfl
theorem ed_only {x : Nat} {w w' : World} {R : Er} {P : Prop} (h1 : R.e ≠ 0 → Below w.heap.size w w') (h2 : R.e = 0 → Only x w w' ∧ P) : Only x w w' := by
  by_cases he : R.e = 0
  · exact (h2 he).1
  · exact Below.only (h1 he) x
end Go.Proofs.YtlpmmmmniojflaaGreatDoor
