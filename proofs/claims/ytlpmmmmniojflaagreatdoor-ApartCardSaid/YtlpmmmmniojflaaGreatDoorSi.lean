/- A working out, walked: a cell that is begun goes on; what memory is then. -/
import Derived.Test.YtlpmmmmniojflaaGreatDoorQ31
set_option linter.unusedVariables false
set_option linter.unusedSimpArgs false
namespace Go.Proofs.YtlpmmmmniojflaaGreatDoor
open Go.RowKit
theorem reads_close {w W w1 : World} {own : Nat → Nat} {b x c : Nat} {r : Rn} {wt : Int} {kn : List Ans} {held : Nat} {an : Ans} {m : Mc} {mst : Nat} {nd : Nd} {v v1 : Value} {y : Rd} (h : RE w own b x r c) (hc : c < 48) (hR : RunC w own b c wt kn held an m mst nd)
    (hs : SlC w own b (cR c) 274 5 v an.rs.length (an.rs.flatMap rdC)) (hW : Below w.heap.size w W)
    (hg : W.grownBy w1 v.ownBlock) (hob : (v1.ownBlock = v.ownBlock ∧ v.ownBlock ≠ none) ∨ (v1.ownBlock = some W.heap.size ∧ W.grownBy w1 none)) (hsl : Slc w1 274 5 v1 (an.rs.length + 1) (an.rs.flatMap rdC ++ rdC y)) :
    ∃ own', RE (w1.setCell ⟨b, T c + 12, none⟩ v1) own' b x r c ∧ RStep w own (w1.setCell ⟨b, T c + 12, none⟩ v1) own' b x ∧ RunC (w1.setCell ⟨b, T c + 12, none⟩ v1) own' b c wt kn held { an with rs := an.rs ++ [y] } m mst nd := by
  have hb := h.lt
  have hne : some b ≠ v.ownBlock := fun e => (hs.col b e.symm).2 rfl
  obtain ⟨cs, k1, k2⟩ := h.blk
  obtain ⟨own', o1, o2, o3⟩ := app_close (lo := T c + 12) (hi := T c + 13) hs hb hW hg hob hsl (j := T c + 12) (by omega) (by omega)
  have kb : w1.heap[b]? = some (.cells cs 187 (0, 0)) := by
    rw [hg.block b (Nat.lt_of_lt_of_le hb hW.size) hne, hW.block b hb]; exact k1
  obtain ⟨r1, s1⟩ := h.chg hc (o3.mono (C' := cC c) (lo' := T c) (hi' := T c + 16) (fun k e => .inr (.inr (.inr e))) (by omega) (by omega)) (fun k hk _ => o1 k hk)
  refine ⟨own', r1, s1, hR.reads k1 k2 hc o1 o3 (v1 := v1) ?_ ?_⟩
  · rw [cell_of_row _ b _ _ 187 (0, 0) (rset kb), Array.getElem?_setIfInBounds_self_of_lt (by unfold T; omega)]
  · rw [List.length_append, List.flatMap_append, List.flatMap_singleton]
    exact o2
theorem value_close {w w2 : World} {own : Nat → Nat} {b x c : Nat} {r : Rn} {wt : Int} {kn : List Ans} {held : Nat} {an : Ans} {m : Mc} {mst : Nat} {nd : Nd} (h : RE w own b x r c) (hc : c < 48) (hR : RunC w own b c wt kn held an m mst nd) (hb2 : Below w.heap.size w w2) (y : V) :
    RE (((w2.setCell ⟨b, T c + 13, none⟩ (.int .i64 y.k)).setCell ⟨b, T c + 14, none⟩ (.int .i64 y.n)).setCell ⟨b, T c + 15, none⟩ (.string y.s)) (zc own c) b x r c ∧
    RStep w own (((w2.setCell ⟨b, T c + 13, none⟩ (.int .i64 y.k)).setCell ⟨b, T c + 14, none⟩ (.int .i64 y.n)).setCell ⟨b, T c + 15, none⟩ (.string y.s)) (zc own c) b x ∧
    AnsAt (((w2.setCell ⟨b, T c + 13, none⟩ (.int .i64 y.k)).setCell ⟨b, T c + 14, none⟩ (.int .i64 y.n)).setCell ⟨b, T c + 15, none⟩ (.string y.s)) b (T c + 11) { an with v := y } (fun g => zc own c g = 0) := by
  obtain ⟨cs, k1, k2⟩ := h.blk
  have hb := h.lt
  have kb : w2.heap[b]? = some (.cells cs 187 (0, 0)) := by rw [hb2.block b hb]; exact k1
  have g : Chg own (cC c) b (T c + 13) (T c + 16) w (((w2.setCell ⟨b, T c + 13, none⟩ (.int .i64 y.k)).setCell ⟨b, T c + 14, none⟩ (.int .i64 y.n)).setCell ⟨b, T c + 15, none⟩ (.string y.s)) :=
    ((((Chg.below hb2 hb).trans ((Chg.set w2 b (T c + 13) _ own (cC c)).mono (fun _ h => h) (by omega) (by omega)) (fun _ _ => rfl)).trans ((Chg.set _ b (T c + 14) _ own (cC c)).mono (fun _ h => h) (by omega) (by omega)) (fun _ _ => rfl)).trans ((Chg.set _ b (T c + 15) _ own (cC c)).mono (fun _ h => h) (by omega) (by omega)) (fun _ _ => rfl))
  obtain ⟨r1, s1⟩ := h.chg (own' := own) hc (g.mono (fun _ h => h) (by omega) (by omega)) (fun _ _ _ => rfl)
  obtain ⟨r2, s2⟩ := r1.fade hc
  refine ⟨r2, s1.trans s2, ?_⟩
  have ka := rset (k := T c + 13) (u := .int .i64 y.k) kb
  have kc := rset (k := T c + 14) (u := .int .i64 y.n) ka
  have kd := rset (k := T c + 15) (u := .string y.s) kc
  obtain ⟨rv, e1, e2, e3⟩ := hR.ans.rs
  refine { f := by rw [g.cell k1 (by omega)]; exact hR.ans.f, rs := ⟨rv, by rw [g.cell k1 (by omega)]; exact e1, ?_, ?_⟩, k := ?_, n := ?_, s := ?_ }
  · refine e2.kept fun gg hgg => ?_
    have hl := e2.lt gg hgg
    have hgb := (e3 gg hgg).2
    rw [Below.heap_setCell _ _ _ _ hgb, Below.heap_setCell _ _ _ _ hgb, Below.heap_setCell _ _ _ _ hgb, hb2.block gg hl]
  · intro gg hgg
    unfold zc
    rw [if_pos (e3 gg hgg).1]
  · rw [cell_of_row _ b _ _ 187 (0, 0) kd, Array.getElem?_setIfInBounds_ne (by omega), Array.getElem?_setIfInBounds_ne (by omega), Array.getElem?_setIfInBounds_self_of_lt (by unfold T; omega)]
  · rw [cell_of_row _ b _ _ 187 (0, 0) kd, Array.getElem?_setIfInBounds_ne (by omega), Array.getElem?_setIfInBounds_self_of_lt (by simp only [Array.size_setIfInBounds]; unfold T; omega)]
  · rw [cell_of_row _ b _ _ 187 (0, 0) kd, Array.getElem?_setIfInBounds_self_of_lt (by simp only [Array.size_setIfInBounds]; unfold T; omega)]
def SVal (r : Rn) : Prop := ∀ o, (r.tk o).st = 3 → (r.tk o).an.v = cyc ∨ OKV (r.tk o).an.v
def RunS (E : Env) (w : World) (own : Nat → Nat) (b x c : Nat) (F : Rn) (k : Nat) (w' : World) : Prop := ∃ own' r', RR w' own' b x r' ∧ RStep w own w' own' b x ∧ WtOK r' ∧ (∀ o, (r'.tk o).st ≤ 3) ∧ (r'.tk c).st = 2 ∧ ActN k (r'.tk c).d ∧ SVal r' ∧ SW r'.store ∧ (r'.tk c).an.rs.length + k ≤ 90000 ∧ runP E c (k + 1) r' = F
theorem look_val {E : Env} {r : Rn} {c o : Nat} {v : V} (hV : SVal r) (h : (look E r c o).2 = some v) : v.eqB cyc = false → OKV v := by
  intro hne
  have hnc : v ≠ cyc := fun e => by rw [e, eqB_iff.2 rfl] at hne; cases hne
  unfold look at h
  by_cases h3 : (r.tk o).st = 3
  · rw [if_pos h3] at h
    cases h
    exact (hV o h3).resolve_left hnc
  · rw [if_neg h3] at h
    split at h
    · cases h; exact absurd rfl hnc
    · cases h
end Go.Proofs.YtlpmmmmniojflaaGreatDoor
