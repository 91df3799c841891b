/- Texts put together. -/
import Derived.Test.YtlpmmmmniojflaaGreatDoorRz
import Derived.Test.YtlpmmmmniojflaaGreatDoorQ28
import Derived.Deep.RegionLaw
/- A working out, walked: begin. -/
set_option linter.unusedVariables false
set_option linter.unusedSimpArgs false
namespace Go.Proofs.YtlpmmmmniojflaaGreatDoor
open Go.RowKit
set_option maxRecDepth 100000 in
set_option maxHeartbeats 2000000 in
theorem nameC_w (n : Nat) (hn : n < 48) (w : World) : Calls Tryz.prog 53 #[.int .i64 n] w fun e w' => e = .returned (nmV n) ∧ Below w.heap.size w w' := by
  have hr := nm_run n hn w
  go_enter Tryz.func53, Tryz.ntmps53
  go_wp2_with fail
  go_ret
  exact ⟨rfl, bl1 _ _⟩
def EVc (w : World) (own : Nat → Nat) : Prop := ∃ g tp p t f, Tryz.prog.globalNamed "strconv.ErrRange" = some g ∧ own g = 0 ∧ w.heap[g]? = some (.cells #[.iface tp p] t f)
theorem EVc.out {w : World} {own : Nat → Nat} (h : EVc w own) : ErrVar w := by
  obtain ⟨g, tp, p, t, f, h1, _, h3⟩ := h
  exact ⟨tp, p, by unfold World.var?; rw [h1]; simp [h3]⟩
theorem EVc.step {w w' : World} {own own' : Nat → Nat} {b x : Nat} {r : Rn} (h : EVc w own) (hR : RR w own b x r) (hS : RStep w own w' own' b x) : EVc w' own' := by
  obtain ⟨g, tp, p, t, f, h1, h2, h3⟩ := h
  have hl := (Array.getElem?_eq_some_iff.1 h3).1
  refine ⟨g, tp, p, t, f, h1, hS.zero g hl h2, ?_⟩
  rw [hS.blk g hl h2]
  · exact h3
  · intro e
    obtain ⟨cs, hb, hs⟩ := hR.blk
    rw [e, hb] at h3
    cases h3
    simp at hs
  · intro e
    obtain ⟨cs, hb, hs⟩ := hR.xblk
    rw [e, hb] at h3
    cases h3
    simp at hs
theorem EVc.below {w w' : World} {own own' : Nat → Nat} (h : EVc w own) (hb : Below w.heap.size w w') (ho : ∀ k, k < w.heap.size → own' k = own k) : EVc w' own' := by
  obtain ⟨g, tp, p, t, f, h1, h2, h3⟩ := h
  have hl := (Array.getElem?_eq_some_iff.1 h3).1
  exact ⟨g, tp, p, t, f, h1, by rw [ho g hl]; exact h2, by rw [hb.block g hl]; exact h3⟩
theorem set7 (a0 a1 a2 a3 a4 a5 a6 b0 b1 b2 b3 b4 b5 b6 : Value) : (((((((#[a0, a1, a2, a3, a4, a5, a6].setIfInBounds 0 b0).setIfInBounds 1 b1).setIfInBounds 2 b2).setIfInBounds 3 b3).setIfInBounds 4 b4).setIfInBounds 5 b5).setIfInBounds 6 b6) = #[b0, b1, b2, b3, b4, b5, b6] := by
  apply Array.ext'
  simp only [Array.toList_setIfInBounds]
  rfl
theorem info182 : (Tryz.prog.info? 182).map (·.size) = some 7 := by kernel_rfl
set_option maxRecDepth 100000 in
theorem load182 {W : World} {q : Nat} {cs : Array Value} {t : TypeId} (h : W.heap[q]? = some (.cells cs t (0, 0))) (hs : cs.size = 7) : (loadVar 182 ⟨q, 0, none⟩).run Tryz.prog W = .ok (.agg cs) W :=
  run_loadVar_row _ _ t 182 cs (0, 0) _ h Tryz.underlying182 rfl (by rw [hs]; exact info182)
set_option maxRecDepth 100000 in
set_option maxHeartbeats 2000000 in
theorem newM_w (t : ByteArray) (code : List Ins) (d : Beh) (hC : Hid (Cmpd t code d)) (w : World) (hE : Hid (ErrVar w)) :
    Calls Tryz.prog 174 #[.string t] w fun e w' => ∃ q cp, e = .returned (.agg #[.slice q code.length cp, .int .i64 0, .int .i64 0, .int .i64 0, .bool false, .slice none 0 0, .slice none 0 0]) ∧ Hid (Slc w' 303 6 (.slice q code.length cp) code.length (code.flatMap insC) ∧ Below w.heap.size w w' ∧ ∀ g, (Value.slice q code.length cp).ownBlock = some g → w.heap.size ≤ g) := by
  go_enter Tryz.func174, Tryz.ntmps174
  go_wp2_with fail
  refine (compile_w t code d hC _ (hE.out.below (bl1 _ _))).mono ?_
  rintro e w1 ⟨v, rfl, h1⟩
  obtain ⟨q, cp, rfl⟩ := h1.out.1.len
  have hb1 := h1.out.2.1
  have HR : Hid (w1.heap[w.heap.size]? = some (.cells #[.slice none 0 0, .int .i64 0, .int .i64 0, .int .i64 0, .bool false, .slice none 0 0, .slice none 0 0] 182 (0, 0))) := by
    unfold Hid; rw [hb1.block _ (by simp)]; exact rnew w _ _
  have z0 := boxc HR.out 0 (.slice none 0 0) rfl
  have z1 := boxc HR.out 1 (.int .i64 0) rfl
  have z2 := boxc HR.out 2 (.int .i64 0) rfl
  have z3 := boxc HR.out 3 (.int .i64 0) rfl
  have z4 := boxc HR.out 4 (.bool false) rfl
  have z5 := boxc HR.out 5 (.slice none 0 0) rfl
  have z6 := boxc HR.out 6 (.slice none 0 0) rfl
  have fz : ∀ j, w1.frozen? ⟨w.heap.size, j, none⟩ = false := fun j => by simp [World.frozen?, HR.out]
  have f0 := fz 0
  have f1 := fz 1
  have f2 := fz 2
  have f3 := fz 3
  have f4 := fz 4
  have f5 := fz 5
  have f6 := fz 6
  have HF : Hid (Slc w1 303 6 (.slice q code.length cp) code.length (code.flatMap insC) ∧ Below w.heap.size w w1 ∧ ∀ g, (Value.slice q code.length cp).ownBlock = some g → w.heap.size + 1 ≤ g) := ⟨h1.out.1, (bl1 w _).trans (hb1.mono (by simp)), fun g hg => by have := h1.out.2.2 g hg; simp at this; omega⟩
  clear h1 hb1 fz
  go_wp2_with fail
  have hr7 := rset (k := 6) (u := .slice none 0 0) (rset (k := 5) (u := .slice none 0 0) (rset (k := 4) (u := .bool false) (rset (k := 3) (u := .int .i64 0) (rset (k := 2) (u := .int .i64 0) (rset (k := 1) (u := .int .i64 0) (rset (k := 0) (u := .slice q code.length cp) HR.out))))))
  rw [set7] at hr7
  refine bodyPost_ret (results_cell1 rfl _ _ _ ⟨w.heap.size, 0, none⟩ _ _ rfl (load182 hr7 rfl)) rfl ?_
  refine ⟨q, cp, rfl, HF.out.1.kept fun g hg => ?_, ?_, fun g hg => by have := HF.out.2.2 g hg; omega⟩
  · have := HF.out.2.2 g hg
    have hne : g ≠ w.heap.size := by omega
    rw [Below.heap_setCell _ _ _ _ hne, Below.heap_setCell _ _ _ _ hne, Below.heap_setCell _ _ _ _ hne, Below.heap_setCell _ _ _ _ hne, Below.heap_setCell _ _ _ _ hne, Below.heap_setCell _ _ _ _ hne, Below.heap_setCell _ _ _ _ hne]
  · exact ((((((HF.out.2.1.setCell (Nat.le_refl _) _).setCell (Nat.le_refl _) _).setCell (Nat.le_refl _) _).setCell (Nat.le_refl _) _).setCell (Nat.le_refl _) _).setCell (Nat.le_refl _) _).setCell (Nat.le_refl _) _
theorem RR.bgn {w w' : World} {own own' : Nat → Nat} {b x : Nat} {r : Rn} (h : RR w own b x r) (g : Chg own (fun k => k = 1) b 1058 1059 w w') (ho : ∀ k, k < w.heap.size → own' k = own k) {l : List Nat} (hl : ∃ v, w'.cell? ⟨b, 1058, none⟩ = some v ∧ SlC w' own' b 1 9 1 v l.length (l.map nmV)) :
    RR w' own' b x { r with bg := l } ∧ RStep w own w' own' b x := by
  obtain ⟨cs, hb, hs⟩ := h.blk
  obtain ⟨cs', hb', hs', _⟩ := g.row cs 187 hb
  have hcell : ∀ j, j < 1058 → w'.cell? ⟨b, j, none⟩ = w.cell? ⟨b, j, none⟩ := fun j hj => g.cell hb (.inl hj)
  have hk : ∀ k, k < w.heap.size → own k ≠ 1 → k ≠ b → w'.heap[k]? = w.heap[k]? := fun k hk h1 hkb => g.blk k hk hkb h1
  have hxb := hk x h.xlt (by rw [h.xo]; omega) h.xb
  have hxc : ∀ j, w'.cell? ⟨x, j, none⟩ = w.cell? ⟨x, j, none⟩ := fun j => World.cell?_of_block (w := w) hxb
  have rowb : ∀ gg cur, w.heap[gg]? = some (.cells cur 274 (0, 0)) → own gg = 0 → w'.heap[gg]? = w.heap[gg]? ∧ own' gg = 0 := fun gg cur hg h0 => by
    have hl := (Array.getElem?_eq_some_iff.1 hg).1
    exact ⟨hk gg hl (by rw [h0]; omega) (fun e => h.notRead cur (e ▸ hg)), by rw [ho gg hl]; exact h0⟩
  have alk : ∀ (l : List Ans) (xs : List Value), AL w own l xs → AL w' own' l xs := by
    intro l
    induction l with
    | nil => intro xs h; exact h
    | cons a l ih =>
      intro xs ⟨rv, q, h1, h2, h3, h4⟩
      have hh : ∀ gg, rv.ownBlock = some gg → w'.heap[gg]? = w.heap[gg]? ∧ own' gg = 0 := fun gg hg => by
        rcases h2.2 with ⟨rfl, _⟩ | ⟨g', o, cap, cur, rfl, hgb, _⟩
        · cases hg
        · cases hg
          exact rowb g' cur hgb (h3 g' rfl)
      exact ⟨rv, q, h1, h2.kept fun gg hg => (hh gg hg).1, fun gg hg => (hh gg hg).2, ih q h4⟩
  have ans : ∀ {bb o : Nat} {a : Ans}, AnsAt w bb o a (fun g => own g = 0) → (∀ t, t < 5 → w'.cell? ⟨bb, o + t, none⟩ = w.cell? ⟨bb, o + t, none⟩) → AnsAt w' bb o a (fun g => own' g = 0) := fun ha hcc => ha.kept hcc fun gg cur hg h0 => rowb gg cur hg h0
  have o0 : ∀ k, k < w.heap.size → own k = 0 → own' k = 0 := fun k hk h0 => by rw [ho k hk]; exact h0
  refine ⟨{ blk := ⟨cs', hb', by rw [hs', hs]⟩, fs := fun d hd => by rw [hcell d (by omega)]; exact h.fs d hd, last := fun d hd => ans (h.last d hd) (fun j hj => hcell _ (by omega)), sp := by rw [hcell _ (by omega)]; exact h.sp, way := by rw [hcell _ (by omega)]; exact h.way, tk := ?_, bg := hl, sto := ?_, xblk := by rw [hxb]; exact h.xblk, xb := h.xb, xo := o0 x h.xlt h.xo, bo := o0 b h.lt h.bo }, RStep.chg h g (by omega) o0⟩
  · intro d hd
    refine (h.tk d hd).move h.notRead (fun _ => trivial) ⟨cs', 187, hb', by unfold T; omega⟩ (fun j hj => hcell _ (by unfold T; omega)) (fun k hl e hkb => ?_) alk
    have hn : own k ≠ 1 := by
      rcases e with e | e
      · rw [e]; omega
      · intro e1; rw [e1] at e; exact cC_one d e
    exact ⟨hk k hl hn hkb, ho k hl⟩
  · exact { places := by rw [hxc]; exact h.sto.places, size := by rw [hxc]; exact h.sto.size, next := by rw [hxc]; exact h.sto.next, len := h.sto.len, kept := fun j a hj => ans (h.sto.kept j a hj) (fun t _ => hxc _) }
end Go.Proofs.YtlpmmmmniojflaaGreatDoor
/- A working out, walked: begin. -/
set_option linter.unusedVariables false
set_option linter.unusedSimpArgs false
namespace Go.Proofs.YtlpmmmmniojflaaGreatDoor
open Go.RowKit
theorem Tryz.info9 : (Tryz.prog.info? 9).map (fun i => (i.zero, i.size, i.bytes)) = some (some (.string ⟨#[]⟩), 1, 16) := by kernel_rfl
structure FmlOK (E : Env) (t : ByteArray) (code : List Ins) : Prop where
  c : ∃ d, Cmpd t code d
  runs : ∃ n, Runs n ⟨code, 0, [], []⟩ (E.D t)
  mi : MI ⟨code, 0, [], []⟩
theorem bgn_close {w W w1 : World} {own : Nat → Nat} {b x c : Nat} {r : Rn} {v v1 : Value} (h : RR w own b x r) (hv : w.cell? ⟨b, 1058, none⟩ = some v) (hs : SlC w own b 1 9 1 v r.bg.length (r.bg.map nmV)) (hW : Below w.heap.size w W)
    (hg : W.grownBy w1 v.ownBlock) (hob : (v1.ownBlock = v.ownBlock ∧ v.ownBlock ≠ none) ∨ (v1.ownBlock = some W.heap.size ∧ W.grownBy w1 none)) (hsl : Slc w1 9 1 v1 (r.bg.length + 1) (r.bg.map nmV ++ [nmV c])) : RS w own b x (w1.setCell ⟨b, 1058, none⟩ v1) { r with bg := r.bg ++ [c] } := by
  have hb := h.lt
  have hne : some b ≠ v.ownBlock := fun e => (hs.col b e.symm).2 rfl
  obtain ⟨own', o1, o2, o3⟩ := app_close (lo := 1058) (hi := 1059) hs hb hW hg hob hsl (j := 1058) (by omega) (by omega)
  refine ⟨own', h.bgn o3 o1 ⟨v1, ?_, ?_⟩⟩
  · obtain ⟨cs, k1, k2⟩ := h.blk
    have kb : w1.heap[b]? = some (.cells cs 187 (0, 0)) := by
      rw [hg.block b (Nat.lt_of_lt_of_le hb hW.size) hne, hW.block b hb]; exact k1
    rw [cell_of_row _ b 1058 _ 187 (0, 0) (rset kb), Array.getElem?_setIfInBounds_self_of_lt (by omega)]
  · rw [List.length_append, List.map_append]
    exact o2
theorem AL.keptB {w w' : World} {own own' : Nat → Nat} {b : Nat} {cs : Array Value} (hb : w.heap[b]? = some (.cells cs 187 (0, 0))) (hk : ∀ k, k < w.heap.size → own k = 0 → k ≠ b → w'.heap[k]? = w.heap[k]? ∧ own' k = 0) : ∀ (l : List Ans) (xs : List Value), AL w own l xs → AL w' own' l xs
  | [], xs, h => h
  | a :: l, xs, ⟨rv, r, h1, h2, h3, h4⟩ => by
    have hh : ∀ gg, rv.ownBlock = some gg → w'.heap[gg]? = w.heap[gg]? ∧ own' gg = 0 := fun gg hg => by
      refine hk gg (h2.lt gg hg) (h3 gg hg) fun e => ?_
      rcases h2.2 with ⟨rfl, _⟩ | ⟨g', o, cap, cur, rfl, hgb, _⟩
      · cases hg
      · cases hg
        have e : g' = b := e
        rw [e, hb] at hgb
        cases hgb
    exact ⟨rv, r, h1, h2.kept fun gg hg => (hh gg hg).1, fun gg hg => (hh gg hg).2, AL.keptB hb hk l r h4⟩
def mC7 (q : Option Addr) (n cp : Nat) : List Value := [.slice q n cp, .int .i64 0, .int .i64 0, .int .i64 0, .bool false, .slice none 0 0, .slice none 0 0]
theorem begun_close {E : Env} {w w3 : World} {own : Nat → Nat} {b x c : Nat} {r : Rn} {code : List Ins} {q : Option Addr} {cp : Nat} (h : RR w own b x r) (hc : c < 48) (hk : (r.tk c).kn = [] ∨ True) (hF : FmlOK E (r.fs c) code)
    (hb3 : Below w.heap.size (w.setCell ⟨b, T c, none⟩ (.int .i64 2)) w3) (hs : Slc w3 303 6 (.slice q code.length cp) code.length (code.flatMap insC)) (hn : ∀ g, (Value.slice q code.length cp).ownBlock = some g → w.heap.size ≤ g) :
    RS w own b x ((w3.setCells b (T c + 4) (mC7 q code.length cp)).setCells b (T c + 11) [.string (r.fs c), .slice none 0 0, .int .i64 0, .int .i64 0, .string ⟨#[]⟩]) (r.put c { r.tk c with st := 2, d := E.D (r.fs c), an := ⟨r.fs c, [], vN⟩ }) := by
  obtain ⟨cs, hb, hsz⟩ := h.blk
  have hlt := h.lt
  have hb2 : (w.setCell ⟨b, T c, none⟩ (.int .i64 2)).heap[b]? = some (.cells (cs.setIfInBounds (T c) (.int .i64 2)) 187 (0, 0)) := rset hb
  have hb3' : w3.heap[b]? = some (.cells (cs.setIfInBounds (T c) (.int .i64 2)) 187 (0, 0)) := by rw [hb3.block b hlt]; exact hb2
  obtain ⟨cs4, e1, e2, e3, e4⟩ := setCells_row (mC7 q code.length cp) (T c + 4) w3 _ hb3'
  obtain ⟨cs5, f1, f2, f3, f4⟩ := setCells_row [.string (r.fs c), .slice none 0 0, .int .i64 0, .int .i64 0, .string ⟨#[]⟩] (T c + 11) _ _ e1
  generalize hW5 : (w3.setCells b (T c + 4) (mC7 q code.length cp)).setCells b (T c + 11) [.string (r.fs c), .slice none 0 0, .int .i64 0, .int .i64 0, .string ⟨#[]⟩] = w5 at *
  have hs5 : cs5.size = 1059 := by rw [f2, e2, Array.size_setIfInBounds]; exact hsz
  have hTc : T c + 16 ≤ 1059 := by unfold T; omega
  have get5 : ∀ j, w5.cell? ⟨b, j, none⟩ = cs5[j]? := fun j => cell_of_row _ b j cs5 187 (0, 0) f1
  have get0 : ∀ j, w.cell? ⟨b, j, none⟩ = cs[j]? := fun j => cell_of_row _ b j cs 187 (0, 0) hb
  have l7 : (mC7 q code.length cp).length = 7 := rfl
  have hout : ∀ j, (j < T c + 4 ∨ T c + 16 ≤ j) → j ≠ T c → w5.cell? ⟨b, j, none⟩ = w.cell? ⟨b, j, none⟩ := fun j hj hne => by
    rw [get5, f3, if_neg (by show ¬ (T c + 11 ≤ j ∧ j < T c + 11 + 5 ∧ _); omega), e3, if_neg (by rw [l7]; omega), get0, Array.getElem?_setIfInBounds_ne (fun e => hne e.symm)]
  have hst : w5.cell? ⟨b, T c, none⟩ = some (.int .i64 2) := by
    rw [get5, f3, if_neg (by show ¬ (T c + 11 ≤ T c ∧ _); omega), e3, if_neg (by rw [l7]; omega), Array.getElem?_setIfInBounds_self_of_lt (by omega)]
  have hm : ∀ t, t < 7 → w5.cell? ⟨b, T c + 4 + t, none⟩ = (mC7 q code.length cp)[t]? := fun t ht => by
    rw [get5, f3, if_neg (by show ¬ (T c + 11 ≤ T c + 4 + t ∧ _); omega), e3, if_pos ⟨by omega, by rw [l7]; omega, by rw [Array.size_setIfInBounds]; omega⟩, Nat.add_sub_cancel_left]
  have ha : ∀ t, t < 5 → w5.cell? ⟨b, T c + 11 + t, none⟩ = [Value.string (r.fs c), .slice none 0 0, .int .i64 0, .int .i64 0, .string ⟨#[]⟩][t]? := fun t ht => by
    rw [get5, f3, if_pos ⟨by omega, by show T c + 11 + t < T c + 11 + 5; omega, by rw [e2, Array.size_setIfInBounds]; omega⟩, Nat.add_sub_cancel_left]
  have blk5 : ∀ k, k < w3.heap.size → k ≠ b → w5.heap[k]? = w3.heap[k]? := fun k hk hkb => by
    rw [f4.block k (Nat.lt_of_lt_of_le hk e4.size) hkb, e4.block k hk hkb]
  have hsz3 : w.heap.size ≤ w3.heap.size := by have := hb3.size; simpa [World.setCell] using this
  have blk0 : ∀ k, k < w.heap.size → k ≠ b → w5.heap[k]? = w.heap[k]? := fun k hk hkb => by
    rw [blk5 k (Nat.lt_of_lt_of_le hk hsz3) hkb, hb3.block k hk, Below.heap_setCell _ _ _ _ hkb]
  have g : Chg own (cC c) b (T c) (T c + 16) w w5 := ⟨(f4.os.trans e4.os).trans hb3.os, (f4.tape.trans e4.tape).trans hb3.tape, (f4.output.trans e4.output).trans hb3.output, Nat.le_trans hsz3 (Nat.le_trans e4.size f4.size), fun k hk hkb _ => blk0 k hk hkb, fun cs0 t0 h0 => by
    rw [hb] at h0
    cases h0
    refine ⟨cs5, f1, by omega, fun j hj => ?_⟩
    have := hout j (by omega) (by omega)
    rw [get5, get0] at this
    exact this⟩
  have ht := h.tk c hc
  refine ⟨ext own w.heap.size, h.task hc g (fun k hk _ => ext_old k hk) ?_⟩
  have hcodeb : ∀ gg, (Value.slice q code.length cp).ownBlock = some gg → gg ≠ b := fun gg hgg e => by have := hn gg hgg; omega
  refine { st := hst, wt := by rw [hout _ (by omega) (by omega)]; exact ht.wt, kn := ?_, held := by rw [hout _ (by omega) (by omega)]; exact ht.held, run := fun _ => ?_, ans := fun e => (by cases e), mz := fun e => by cases e }
  · obtain ⟨v, xs, h1, h2, h3⟩ := ht.kn
    refine ⟨v, xs, by rw [hout _ (by omega) (by omega)]; exact h1, ⟨h2.sl.kept fun gg hgg => blk0 gg (h2.sl.lt gg hgg) (h2.col gg hgg).2, fun gg hgg => ⟨by rw [ext_old gg (h2.sl.lt gg hgg)]; exact (h2.col gg hgg).1, (h2.col gg hgg).2⟩⟩, ?_⟩
    exact AL.keptB (b := b) hb (fun k hk h0 hkb => ⟨blk0 k hk hkb, by rw [ext_old k hk]; exact h0⟩) _ _ h3
  · obtain ⟨n, hn'⟩ := hF.runs
    refine ⟨⟨code, 0, [], []⟩, 0, ⟨0, false⟩, ?_, hF.mi, .inl ⟨rfl, n, hn'⟩, ?_⟩
    · refine { blk := ⟨cs5, 187, f1, by omega⟩, code := ⟨_, hm 0 (by omega), ⟨hs.kept fun gg hgg => blk5 gg (hs.lt gg hgg) (hcodeb gg hgg), fun gg hgg => ⟨ext_new (hn gg hgg), hcodeb gg hgg⟩⟩⟩, at' := hm 1 (by omega), st := hm 2 (by omega), nc := hm 3 (by omega), na := hm 4 (by omega), vals := ⟨_, hm 5 (by omega), ⟨slc_nil _ _ _, fun gg hgg => by cases hgg⟩⟩, gds := ⟨_, hm 6 (by omega), ⟨slc_nil _ _ _, fun gg hgg => by cases hgg⟩⟩ }
    · exact { f := ha 0 (by omega), rs := ⟨_, ha 1 (by omega), slc_nil _ _ _, fun gg hgg => by cases hgg⟩, k := ha 2 (by omega), n := ha 3 (by omega), s := ha 4 (by omega) }
end Go.Proofs.YtlpmmmmniojflaaGreatDoor
/- A working out, walked: begin. -/
set_option linter.unusedVariables false
set_option linter.unusedSimpArgs false
namespace Go.Proofs.YtlpmmmmniojflaaGreatDoor
open Go.RowKit
theorem info95 : (Tryz.prog.info? 95).map (·.size) = some 5 := by kernel_rfl
set_option maxRecDepth 100000 in
set_option maxHeartbeats 8000000 in
theorem begin_w (E : Env) (w : World) (own : Nat → Nat) (b x : Nat) (r : Rn) (c : Nat) (code : List Ins) (hc : c < 48) (h : Hid (RR w own b x r)) (hE : Hid (EVc w own)) (hF : Hid (FmlOK E (r.fs c) code)) (hbl : Hid (r.bg.length ≤ 100000)) :
    Calls Tryz.prog 144 #[.pointer (some ⟨b, 0, none⟩), .int .i64 c] w fun e w' => e = .returned (.tuple #[]) ∧ Hid (RS w own b x w' (beginP E r c)) := by
  obtain ⟨i0, hi, hz0, hz1, hz2⟩ := info_parts Tryz.info9
  obtain ⟨v, hv, hs⟩ := h.out.bg
  have hci : (c : Int) < 48 := by omega
  have hc0 : 0 ≤ (c : Int) := by omega
  have HC : Hid (c < 48) := hc
  have HV : Hid _ := hv
  have HS : Hid (SlC w own b 1 9 1 v r.bg.length (r.bg.map nmV)) := hs
  have hlt := h.out.lt
  have hfz := h.out.frozen 1058
  have hne : Hid (some b ≠ v.ownBlock) := fun e => (hs.col b e.symm).2 rfl
  clear hs hc
  go_enter Tryz.func144, Tryz.ntmps144
  go_wp2_with fail
  go_region_law (first
    | (refine step_append_sl (by rfl) _ _ _ (by rfl) 9 i0 _ 1 16 Tryz.underlying47 hi hz0 hz1 hz2 rfl v r.bg.length (r.bg.map nmV) (by rfl) (HSl.out _) ⟨w2.heap.size, 0, none⟩ 1 1 [.string (nm c)] (by rfl) (by decide) (by rfl) (World.news_of_block (cs := #[.string (nm c)]) (t := 9) (fr := (0, 0)) (by exact rnew w2 _ _)) (by simp [Value.oneCell']) (by have := hbl.out; unfold maxLen; omega) (by have := hbl.out; omega) ?_; intro v1 w1 hsl hgrow hob; obtain ⟨q1, cp1, hq1⟩ := Slc.len hsl; subst hq1; have d1 := grown_cell hgrow (q := b) (j := 1058) (v := v) (hv3 _) hne.out; have f1 := grown_frozen hgrow (q := b) (j := 1058) (v := v) (hv3 _) (hfz3 _) hne.out)
    | (go_simp; go_at_call 53; refine (nameC_w c HC.out _).mono ?_; rintro e w2 ⟨rfl, hb2⟩; unfold nmV; have HB2 : Hid (Below w.heap.size w w2) := ((Below.refl _ _).drew).trans hb2; have hv2 : w2.cell? ⟨b, 1058, none⟩ = some v := (by rw [HB2.out.cell (p := ⟨b, 1058, none⟩) hlt]; exact HV.out); have hfz2 : w2.frozen? ⟨b, 1058, none⟩ = false := (by rw [← hfz]; exact World.frozen?_of_block (w := w) (HB2.out.block b hlt)); have hlt2 : b < w2.heap.size := Nat.lt_of_lt_of_le hlt HB2.out.size; have hv3 := al hv2; have hfz3 := afz hfz2 hlt2; have HSl : Hid (∀ z, Slc (w2.alloc z) 9 1 v r.bg.length (r.bg.map nmV)) := fun z => HS.out.sl.kept (fun g hg => by rw [Below.heap_alloc _ _ _ (Nat.lt_of_lt_of_le (HS.out.sl.lt g hg) HB2.out.size), HB2.out.block g (HS.out.sl.lt g hg)]); clear hb2))
  all_goals
    have hB : Below w.heap.size w (w2.alloc (Obj.cells #[Value.string (nm c)] 9)) := HB2.out.alloc HB2.out.size _
    have HRS : Hid (RS w own b x (w1.setCell ⟨b, 1058, none⟩ (.slice q1 (r.bg.length + 1) cp1)) { r with bg := r.bg ++ [c] }) := bgn_close h.out HV.out HS.out hB hgrow hob hsl
    clear hB hgrow hob hsl d1 f1 hv3 hfz3 HSl hv2 hfz2 hlt2 HB2 hi hz0 hz1 hz2
    generalize w1.setCell ⟨b, 1058, none⟩ (.slice q1 (r.bg.length + 1) cp1) = W1 at *
    obtain ⟨own1, R1, S1⟩ := HRS.out
    have hE1 : EVc W1 own1 := hE.out.step h.out S1
    have HR1 : Hid _ := R1
    have HS1 : Hid _ := S1
    have hlt1 := R1.lt
    have t0 := (R1.tk c HC.out).st
    rw [← T_addr] at t0
    have tf := R1.frozen (290 + c * 16)
    have tfs := R1.fs c HC.out
    have HE2 : Hid (ErrVar (W1.setCell ⟨b, 290 + c * 16, none⟩ (.int .i64 2))) := by
      obtain ⟨g, tp, p, t, f, e1, e2, e3⟩ := hE1
      have hgb : g ≠ b := by
        intro e
        obtain ⟨cs, hb, hs⟩ := R1.blk
        rw [e, hb] at e3
        cases e3
        simp at hs
      exact ⟨tp, p, by unfold World.var?; rw [e1]; simp only [Option.bind_some]; rw [Below.heap_setCell _ _ _ _ hgb, e3]⟩
    have fs2 : (W1.setCell ⟨b, 290 + c * 16, none⟩ (.int .i64 2)).cell? ⟨b, c, none⟩ = some (.string (r.fs c)) := by
      obtain ⟨cs, hb, hs⟩ := R1.blk
      rw [cset187 hb (by omega)]; exact tfs
    clear hE1 R1 S1 HRS hv hfz
    go_wp2_with fail
    obtain ⟨d, hCm⟩ := hF.out.c
    refine (newM_w (r.fs c) code d hCm _ HE2).mono ?_
    rintro e w3 ⟨q, cp, rfl, h3⟩
    have hb13 : Below (W1.setCell ⟨b, 290 + c * 16, none⟩ (.int .i64 2)).heap.size (W1.setCell ⟨b, 290 + c * 16, none⟩ (.int .i64 2)) w3 := h3.out.2.1
    have hszW : (W1.setCell ⟨b, 290 + c * 16, none⟩ (.int .i64 2)).heap.size = W1.heap.size := by simp [World.setCell]
    obtain ⟨cs1, hbk1, hsz1⟩ := HR1.out.blk
    have hbk3 : w3.heap[b]? = some (.cells (cs1.setIfInBounds (290 + c * 16) (.int .i64 2)) 187 (0, 0)) := by
      rw [hb13.block b (by rw [hszW]; exact hlt1)]; exact rset hbk1
    have hc48 := HC.out
    have th3 : ∀ o n, o + n ≤ 1059 → w3.there b o n := fun o n hon j hj => by
      refine ⟨?_, by simp [World.frozen?, hbk3]⟩
      rw [cell_of_row _ b _ _ 187 (0, 0) hbk3, Array.getElem?_eq_getElem (by rw [Array.size_setIfInBounds]; omega)]; rfl
    have h4 : Hid ((storeVar 182 ⟨b, 290 + c * 16 + 4, none⟩ (.agg #[.slice q code.length cp, .int .i64 0, .int .i64 0, .int .i64 0, .bool false, .slice none 0 0, .slice none 0 0])).run Tryz.prog w3 = .ok () (w3.setCells b (290 + c * 16 + 4) (mC7 q code.length cp))) :=
      run_storeVar_mid w3 b _ 182 #[.slice q code.length cp, .int .i64 0, .int .i64 0, .int .i64 0, .bool false, .slice none 0 0, .slice none 0 0] (th3 _ _ (by show 290 + c * 16 + 4 + 7 ≤ 1059; omega)) info182 (by simp [Value.oneCell'])
    obtain ⟨cs4, e1, e2, e3, e4⟩ := setCells_row (mC7 q code.length cp) (290 + c * 16 + 4) w3 _ hbk3
    have th4 : ∀ o n, o + n ≤ 1059 → (w3.setCells b (290 + c * 16 + 4) (mC7 q code.length cp)).there b o n := fun o n hon j hj => by
      refine ⟨?_, by simp [World.frozen?, e1]⟩
      rw [cell_of_row _ b _ _ 187 (0, 0) e1, Array.getElem?_eq_getElem (by rw [e2, Array.size_setIfInBounds]; omega)]; rfl
    have h5 : Hid ((storeVar 95 ⟨b, 290 + c * 16 + 11, none⟩ (.agg #[.string (r.fs c), .slice none 0 0, .int .i64 0, .int .i64 0, .string ⟨#[]⟩])).run Tryz.prog (w3.setCells b (290 + c * 16 + 4) (mC7 q code.length cp)) = .ok () ((w3.setCells b (290 + c * 16 + 4) (mC7 q code.length cp)).setCells b (290 + c * 16 + 11) [.string (r.fs c), .slice none 0 0, .int .i64 0, .int .i64 0, .string ⟨#[]⟩])) :=
      run_storeVar_mid _ b _ 95 #[.string (r.fs c), .slice none 0 0, .int .i64 0, .int .i64 0, .string ⟨#[]⟩] (th4 _ _ (by show 290 + c * 16 + 11 + 5 ≤ 1059; omega)) info95 (by simp [Value.oneCell'])
    have fs4 : (w3.setCells b (290 + c * 16 + 4) (mC7 q code.length cp)).cell? ⟨b, c, none⟩ = some (.string (r.fs c)) := by
      rw [cell_of_row _ b c cs4 187 (0, 0) e1, e3, if_neg (by omega), Array.getElem?_setIfInBounds_ne (by omega)]
      rw [cell_of_row _ b c cs1 187 (0, 0) hbk1] at tfs; exact tfs
    have HFIN : Hid (RS w own b x ((w3.setCells b (290 + c * 16 + 4) (mC7 q code.length cp)).setCells b (290 + c * 16 + 11) [.string (r.fs c), .slice none 0 0, .int .i64 0, .int .i64 0, .string ⟨#[]⟩]) (beginP E r c)) := by
      have hb13' : Below W1.heap.size (W1.setCell ⟨b, T c, none⟩ (.int .i64 2)) w3 := by rw [← T_addr]; exact hb13.mono (by rw [hszW]; exact Nat.le_refl _)
      have := begun_close (E := E) HR1.out hc48 (.inr trivial) hF.out hb13' h3.out.1 (fun g hg => by have := h3.out.2.2 g hg; rw [hszW] at this; exact this)
      rw [← T_addr] at this
      exact RS.comp HS1.out this
    clear h3 hb13 hszW hbk1 hbk3 hsz1 th3 th4 e1 e2 e3 e4 fs2 t0 tf tfs HE2 hCm HR1 HS1 hc48
    go_wp2_with (first
      | (refine wpList_store_run (P := Tryz.prog) ?_ 182 (.tmp 33) (.tmp 31) ?_ ⟨b, 290 + c * 16 + 4, none⟩ (.agg #[.slice q code.length cp, .int .i64 0, .int .i64 0, .int .i64 0, .bool false, .slice none 0 0, .slice none 0 0]) ?_ ?_ (w3.setCells b (290 + c * 16 + 4) (mC7 q code.length cp)) ?_ ?_; (rfl); (rfl); (rfl); (rfl); (exact h4.out))
      | (refine wpList_store_run (P := Tryz.prog) ?_ 95 (.tmp 43) (.tmp 41) ?_ ⟨b, 290 + c * 16 + 11, none⟩ (.agg #[.string (r.fs c), .slice none 0 0, .int .i64 0, .int .i64 0, .string ⟨#[]⟩]) ?_ ?_ ((w3.setCells b (290 + c * 16 + 4) (mC7 q code.length cp)).setCells b (290 + c * 16 + 11) [.string (r.fs c), .slice none 0 0, .int .i64 0, .int .i64 0, .string ⟨#[]⟩]) ?_ ?_; (rfl); (rfl); (rfl); (rfl); (exact h5.out)))
    refine bodyPost_end (results_none rfl _ _ _) rfl ?_
    exact ⟨rfl, HFIN⟩
end Go.Proofs.YtlpmmmmniojflaaGreatDoor
/- A working out, without one of its cells; the store takes an answer in. -/
set_option linter.unusedVariables false
set_option linter.unusedSimpArgs false
namespace Go.Proofs.YtlpmmmmniojflaaGreatDoor
open Go.RowKit
structure RE (w : World) (own : Nat → Nat) (b x : Nat) (r : Rn) (c : Nat) : Prop where
  blk : ∃ cs, w.heap[b]? = some (.cells cs 187 (0, 0)) ∧ cs.size = 1059
  fs : ∀ c, c < 48 → w.cell? ⟨b, c, none⟩ = some (.string (r.fs c))
  last : ∀ c, c < 48 → AnsAt w b (48 + c * 5) (r.last c) (fun g => own g = 0)
  sp : w.cell? ⟨b, 288, none⟩ = some (.pointer (some ⟨x, 432, none⟩))
  way : w.cell? ⟨b, 289, none⟩ = some (.int .i64 r.way)
  tk : ∀ d, d < 48 → d ≠ c → TR w own b d (r.tk d)
  bg : ∃ v, w.cell? ⟨b, 1058, none⟩ = some v ∧ SlC w own b 1 9 1 v r.bg.length (r.bg.map nmV)
  sto : StoR w own x r.store
  xblk : ∃ cs, w.heap[x]? = some (.cells cs 104 (0, 0)) ∧ cs.size = 755
  xb : x ≠ b
  xo : own x = 0
  bo : own b = 0
theorem RR.re {w : World} {own : Nat → Nat} {b x : Nat} {r : Rn} (h : RR w own b x r) (c : Nat) : RE w own b x r c :=
  { blk := h.blk, fs := h.fs, last := h.last, sp := h.sp, way := h.way, tk := fun d hd _ => h.tk d hd, bg := h.bg, sto := h.sto, xblk := h.xblk, xb := h.xb, xo := h.xo, bo := h.bo }
section
variable {w w1 w2 w' : World} {own own1 own2 own' : Nat → Nat} {b x c : Nat} {r : Rn} {t : Tsk} {C : Nat → Prop} {lo hi : Nat}
theorem RE.lt (h : RE w own b x r c) : b < w.heap.size := by obtain ⟨cs, h1, _⟩ := h.blk; exact (Array.getElem?_eq_some_iff.1 h1).1
theorem RE.xlt (h : RE w own b x r c) : x < w.heap.size := by obtain ⟨cs, h1, _⟩ := h.xblk; exact (Array.getElem?_eq_some_iff.1 h1).1
theorem RE.notRead (h : RE w own b x r c) : ∀ cur, w.heap[b]? ≠ some (.cells cur 274 (0, 0)) := by
  obtain ⟨cs, h1, _⟩ := h.blk
  intro cur e; rw [h1] at e; cases e
theorem RE.frozen (h : RE w own b x r c) (j : Nat) : w.frozen? ⟨b, j, none⟩ = false := by obtain ⟨cs, h1, _⟩ := h.blk; simp [World.frozen?, h1]
theorem RStep.chgE (h : RE w own b x r c) (g : Chg own C b lo hi w w') (h0 : ¬ C 0) (ho : ∀ k, k < w.heap.size → own k = 0 → own' k = 0) : RStep w own w' own' b x :=
  ⟨g.os, g.tape, g.output, g.size, ho, fun k hk hk0 hb _ => g.blk k hk hb (by rw [hk0]; exact h0), fun j _ => World.cell?_of_block (w := w) (g.blk x h.xlt h.xb (by rw [h.xo]; exact h0))⟩
theorem RE.task (h : RE w own b x r c) (hc48 : c < 48) (g : Chg own (cC c) b (T c) (T c + 16) w w') (ho : ∀ k, k < w.heap.size → ¬ cC c (own k) → own' k = own k) (ht : TR w' own' b c t) : RR w' own' b x (r.put c t) ∧ RStep w own w' own' b x := by
  obtain ⟨cs, hb, hs⟩ := h.blk
  obtain ⟨cs', hb', hs', _⟩ := g.row cs 187 hb
  have hcell : ∀ j, (j < T c ∨ T c + 16 ≤ j) → w'.cell? ⟨b, j, none⟩ = w.cell? ⟨b, j, none⟩ := fun j hj => g.cell hb hj
  have k0 : ∀ k, k < w.heap.size → own k = 0 → k ≠ b → w'.heap[k]? = w.heap[k]? := fun k hk h0 hkb => g.blk k hk hkb (by rw [h0]; exact cC_zero c)
  have o0 : ∀ k, k < w.heap.size → own k = 0 → own' k = 0 := fun k hk h0 => by rw [ho k hk (by rw [h0]; exact cC_zero c)]; exact h0
  have hxb := k0 x h.xlt h.xo h.xb
  have hxc : ∀ j, w'.cell? ⟨x, j, none⟩ = w.cell? ⟨x, j, none⟩ := fun j => World.cell?_of_block (w := w) hxb
  have alk : ∀ (l : List Ans) (xs : List Value), AL w own l xs → AL w' own' l xs := by
    intro l
    induction l with
    | nil => intro xs h; exact h
    | cons a l ih =>
      intro xs ⟨rv, q, h1, h2, h3, h4⟩
      have hh : ∀ gg, rv.ownBlock = some gg → w'.heap[gg]? = w.heap[gg]? ∧ own' gg = 0 := fun gg hg => by
        have hl := h2.lt gg hg
        refine ⟨k0 gg hl (h3 gg hg) ?_, o0 gg hl (h3 gg hg)⟩
        intro e
        rcases h2.2 with ⟨rfl, _⟩ | ⟨g', o, cap, cur, rfl, hgb, _⟩
        · cases hg
        · cases hg
          have e : g' = b := e
          rw [e, hb] at hgb
          cases hgb
      exact ⟨rv, q, h1, h2.kept fun gg hg => (hh gg hg).1, fun gg hg => (hh gg hg).2, ih q h4⟩
  have ans : ∀ {bb o : Nat} {a : Ans}, AnsAt w bb o a (fun g => own g = 0) → (∀ t, t < 5 → w'.cell? ⟨bb, o + t, none⟩ = w.cell? ⟨bb, o + t, none⟩) → AnsAt w' bb o a (fun g => own' g = 0) := fun ha hcc =>
    ha.kept hcc fun gg cur hg h0 => by
      have hl := (Array.getElem?_eq_some_iff.1 hg).1
      exact ⟨k0 gg hl h0 (fun e => h.notRead cur (e ▸ hg)), o0 gg hl h0⟩
  refine ⟨{ blk := ⟨cs', hb', by rw [hs', hs]⟩, fs := fun d hd => by rw [hcell d (by unfold T; omega)]; exact h.fs d hd, last := fun d hd => ans (h.last d hd) (fun j hj => hcell _ (by unfold T; omega)), sp := by rw [hcell _ (by unfold T; omega)]; exact h.sp, way := by rw [hcell _ (by unfold T; omega)]; exact h.way, tk := ?_, bg := ?_, sto := ?_, xblk := by rw [hxb]; exact h.xblk, xb := h.xb, xo := o0 x h.xlt h.xo, bo := o0 b h.lt h.bo }, RStep.chgE h g (cC_zero c) o0⟩
  · intro d hd
    by_cases hdc : d = c
    · subst hdc; rw [put_same]; exact ht
    · rw [put_ne _ _ _ hdc]
      refine (h.tk d hd hdc).move h.notRead (fun _ => trivial) ⟨cs', 187, hb', by unfold T; omega⟩ (fun j hj => hcell _ (by unfold T; omega)) (fun k hl e hkb => ?_) alk
      have hn : ¬ cC c (own k) := by
        rcases e with e | e
        · rw [e]; exact cC_zero c
        · exact cC_other hdc e
      exact ⟨g.blk k hl hkb hn, ho k hl hn⟩
  · obtain ⟨v, h1, h2⟩ := h.bg
    refine ⟨v, by rw [hcell _ (by unfold T; omega)]; exact h1, h2.move fun k hl e hkb => ?_⟩
    have hn : ¬ cC c (own k) := by rw [e]; exact cC_one c
    exact ⟨g.blk k hl hkb hn, by rw [ho k hl hn]; exact e⟩
  · exact { places := by rw [hxc]; exact h.sto.places, size := by rw [hxc]; exact h.sto.size, next := by rw [hxc]; exact h.sto.next, len := h.sto.len, kept := fun j a hj => ans (h.sto.kept j a hj) (fun t _ => hxc _) }
theorem RE.chg (h : RE w own b x r c) (hc48 : c < 48) (g : Chg own (cC c) b (T c) (T c + 16) w w') (ho : ∀ k, k < w.heap.size → ¬ cC c (own k) → own' k = own k) : RE w' own' b x r c ∧ RStep w own w' own' b x := by
  obtain ⟨cs, hb, hs⟩ := h.blk
  obtain ⟨cs', hb', hs', _⟩ := g.row cs 187 hb
  have hcell : ∀ j, (j < T c ∨ T c + 16 ≤ j) → w'.cell? ⟨b, j, none⟩ = w.cell? ⟨b, j, none⟩ := fun j hj => g.cell hb hj
  have k0 : ∀ k, k < w.heap.size → own k = 0 → k ≠ b → w'.heap[k]? = w.heap[k]? := fun k hk h0 hkb => g.blk k hk hkb (by rw [h0]; exact cC_zero c)
  have o0 : ∀ k, k < w.heap.size → own k = 0 → own' k = 0 := fun k hk h0 => by rw [ho k hk (by rw [h0]; exact cC_zero c)]; exact h0
  have hxb := k0 x h.xlt h.xo h.xb
  have hxc : ∀ j, w'.cell? ⟨x, j, none⟩ = w.cell? ⟨x, j, none⟩ := fun j => World.cell?_of_block (w := w) hxb
  have alk : ∀ (l : List Ans) (xs : List Value), AL w own l xs → AL w' own' l xs := AL.keptB hb fun k hk h0 hkb => ⟨k0 k hk h0 hkb, o0 k hk h0⟩
  have ans : ∀ {bb o : Nat} {a : Ans}, AnsAt w bb o a (fun g => own g = 0) → (∀ t, t < 5 → w'.cell? ⟨bb, o + t, none⟩ = w.cell? ⟨bb, o + t, none⟩) → AnsAt w' bb o a (fun g => own' g = 0) := fun ha hcc =>
    ha.kept hcc fun gg cur hg h0 => by
      have hl := (Array.getElem?_eq_some_iff.1 hg).1
      exact ⟨k0 gg hl h0 (fun e => h.notRead cur (e ▸ hg)), o0 gg hl h0⟩
  refine ⟨{ blk := ⟨cs', hb', by rw [hs', hs]⟩, fs := fun d hd => by rw [hcell d (by unfold T; omega)]; exact h.fs d hd, last := fun d hd => ans (h.last d hd) (fun j hj => hcell _ (by unfold T; omega)), sp := by rw [hcell _ (by unfold T; omega)]; exact h.sp, way := by rw [hcell _ (by unfold T; omega)]; exact h.way, tk := ?_, bg := ?_, sto := ?_, xblk := by rw [hxb]; exact h.xblk, xb := h.xb, xo := o0 x h.xlt h.xo, bo := o0 b h.lt h.bo }, RStep.chgE h g (cC_zero c) o0⟩
  · intro d hd hdc
    refine (h.tk d hd hdc).move h.notRead (fun _ => trivial) ⟨cs', 187, hb', by unfold T; omega⟩ (fun j hj => hcell _ (by unfold T; omega)) (fun k hl e hkb => ?_) alk
    have hn : ¬ cC c (own k) := by
      rcases e with e | e
      · rw [e]; exact cC_zero c
      · exact cC_other hdc e
    exact ⟨g.blk k hl hkb hn, ho k hl hn⟩
  · obtain ⟨v, h1, h2⟩ := h.bg
    refine ⟨v, by rw [hcell _ (by unfold T; omega)]; exact h1, h2.move fun k hl e hkb => ?_⟩
    have hn : ¬ cC c (own k) := by rw [e]; exact cC_one c
    exact ⟨g.blk k hl hkb hn, by rw [ho k hl hn]; exact e⟩
  · exact { places := by rw [hxc]; exact h.sto.places, size := by rw [hxc]; exact h.sto.size, next := by rw [hxc]; exact h.sto.next, len := h.sto.len, kept := fun j a hj => ans (h.sto.kept j a hj) (fun t _ => hxc _) }
theorem RE.fade (h : RE w own b x r c) (hc48 : c < 48) : RE w (zc own c) b x r c ∧ RStep w own w (Go.Proofs.YtlpmmmmniojflaaGreatDoor.zc own c) b x := by
  refine h.chg hc48 (Chg.refl _ _ _ _ _ _) fun k hk hn => ?_
  unfold Go.Proofs.YtlpmmmmniojflaaGreatDoor.zc
  rw [if_neg (fun e => hn (.inr (.inr (.inr e))))]
theorem RE.below (h : RE w own b x r c) (hc48 : c < 48) (hb : Below w.heap.size w w') (ho : ∀ k, k < w.heap.size → own' k = own k) : RE w' own' b x r c ∧ RStep w own w' own' b x :=
  h.chg hc48 (Chg.below hb h.lt) fun k hk _ => ho k hk
theorem RE.stored (h : RE w own b x r c) {s : Sto} (hs : StoR w' own x s) (hob : Only x w w') (hcell : ∀ j, (j < 432 ∨ 755 ≤ j) → w'.cell? ⟨x, j, none⟩ = w.cell? ⟨x, j, none⟩) (hblk : ∃ cs, w'.heap[x]? = some (.cells cs 104 (0, 0)) ∧ cs.size = 755) : RE w' own b x { r with store := s } c ∧ RStep w own w' own b x := by
  have hbb := hob.block b h.lt (fun e => h.xb e.symm)
  have hc : ∀ j, w'.cell? ⟨b, j, none⟩ = w.cell? ⟨b, j, none⟩ := fun j => World.cell?_of_block (w := w) hbb
  obtain ⟨cs, hb, hsz⟩ := h.blk
  obtain ⟨xcs, hx, _⟩ := h.xblk
  have rx : ∀ (gg : Nat) (cur : Array Value), w.heap[gg]? = some (Obj.cells cur 274 (0, 0)) → w'.heap[gg]? = w.heap[gg]? := fun gg cur hg => hob.block gg (Array.getElem?_eq_some_iff.1 hg).1 (fun e => by rw [e, hx] at hg; cases hg)
  have slx : ∀ {e : TypeId} {size : Nat} {v : Value} {n : Nat} {xs : List Value}, e ≠ 104 → Slc w e size v n xs → Slc w' e size v n xs := fun he hsl => by
    refine hsl.kept fun gg hgg => hob.block gg (hsl.lt gg hgg) fun e => ?_
    rcases hsl.2 with ⟨rfl, _⟩ | ⟨g', o, cap, cur, rfl, hgb, _⟩
    · cases hgg
    · cases hgg
      have e : g' = x := e
      rw [e, hx] at hgb
      cases hgb
      exact he rfl
  have alk : ∀ (l : List Ans) (xs : List Value), AL w own l xs → AL w' own l xs := by
    intro l
    induction l with
    | nil => intro xs h; exact h
    | cons a l ih => intro xs ⟨rv, q, h1, h2, h3, h4⟩; exact ⟨rv, q, h1, slx (by decide) h2, h3, ih q h4⟩
  have ans : ∀ {o : Nat} {a : Ans} {Q : Nat → Prop}, AnsAt w b o a Q → AnsAt w' b o a Q := fun ha => ha.kept (fun t _ => hc _) fun gg cur hg h0 => ⟨rx gg cur hg, h0⟩
  refine ⟨{ blk := ⟨cs, by rw [hbb]; exact hb, hsz⟩, fs := fun d hd => by rw [hc]; exact h.fs d hd, last := fun d hd => ans (h.last d hd), sp := by rw [hc]; exact h.sp, way := by rw [hc]; exact h.way, tk := ?_, bg := ?_, sto := hs, xblk := hblk, xb := h.xb, xo := h.xo, bo := h.bo }, ⟨hob.os, hob.tape, hob.output, hob.size, fun _ _ h => h, fun k hk _ _ hkx => hob.block k hk hkx, hcell⟩⟩
  · intro d hd hdc
    have ht := h.tk d hd hdc
    refine { st := by rw [hc]; exact ht.st, wt := by rw [hc]; exact ht.wt, kn := ?_, held := by rw [hc]; exact ht.held, run := fun e => ?_, ans := fun e => ans (ht.ans e), mz := fun e => (ht.mz e).kept fun j _ _ => hc _ }
    · obtain ⟨v, xs, h1, h2, h3⟩ := ht.kn
      exact ⟨v, xs, by rw [hc]; exact h1, ⟨slx (by decide) h2.sl, h2.col⟩, alk _ _ h3⟩
    · obtain ⟨m, mst, nd, h1, h2, h3, h4⟩ := ht.run e
      refine ⟨m, mst, nd, { blk := ⟨cs, 187, by rw [hbb]; exact hb, by unfold T; omega⟩, code := ?_, at' := by rw [hc]; exact h1.at', st := by rw [hc]; exact h1.st, nc := by rw [hc]; exact h1.nc, na := by rw [hc]; exact h1.na, vals := ?_, gds := ?_ }, h2, h3, ans h4⟩
      · obtain ⟨v, g1, g2⟩ := h1.code; exact ⟨v, by rw [hc]; exact g1, ⟨slx (by decide) g2.sl, g2.col⟩⟩
      · obtain ⟨v, g1, g2⟩ := h1.vals; exact ⟨v, by rw [hc]; exact g1, ⟨slx (by decide) g2.sl, g2.col⟩⟩
      · obtain ⟨v, g1, g2⟩ := h1.gds; exact ⟨v, by rw [hc]; exact g1, ⟨slx (by decide) g2.sl, g2.col⟩⟩
  · obtain ⟨v, h1, h2⟩ := h.bg
    exact ⟨v, by rw [hc]; exact h1, ⟨slx (by decide) h2.sl, h2.col⟩⟩
end
end Go.Proofs.YtlpmmmmniojflaaGreatDoor
