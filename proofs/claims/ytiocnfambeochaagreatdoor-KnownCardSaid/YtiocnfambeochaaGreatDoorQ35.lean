/- Texts put together. -/
import Derived.Test.YtiocnfambeochaaGreatDoorQ34
/- A working out, walked: a cell that is begun goes on; the parts. -/
set_option linter.unusedVariables false
set_option linter.unusedSimpArgs false
namespace Go.Proofs.YtiocnfambeochaaGreatDoor
open Go.RowKit

section
variable {E : Env} {c n : Nat} {r r' : Rn} {v : V} {nd : Nd}
theorem runP_done (h : (r.tk c).d [] = .inl v) : runP E c (n + 1) r = settle { r with store := r.store.add { (r.tk c).an with v := v } } c { (r.tk c).an with v := v } := by
  rw [runP, h]
theorem runP_wait (h : (r.tk c).d [] = .inr nd) (hl : look E r c nd.c = (r', none)) : runP E c (n + 1) r = r' := by
  rw [runP, h]; dsimp only; rw [hl]
theorem runP_cyc (h : (r.tk c).d [] = .inr nd) (hl : look E r c nd.c = (r, some v)) (hv : v.eqB cyc = true) : runP E c (n + 1) r = settle r c ⟨r.fs c, [], v⟩ := by
  rw [runP, h]; dsimp only; rw [hl]; dsimp only; rw [if_pos hv]
theorem runP_next (h : (r.tk c).d [] = .inr nd) (hl : look E r c nd.c = (r, some v)) (hv : v.eqB cyc = false) : runP E c (n + 1) r = runP E c n (r.put c { r.tk c with d := fun l => (r.tk c).d (see nd v :: l), an := { (r.tk c).an with rs := (r.tk c).an.rs ++ [⟨nd, see nd v⟩] } }) := by
  rw [runP, h]; dsimp only; rw [hl]; dsimp only; rw [if_neg (by rw [hv]; decide)]
end
set_option maxRecDepth 100000 in
set_option maxHeartbeats 2000000 in
theorem look_b (E : Env) (hE : Hid (RightW E)) (w : World) (own : Nat → Nat) (b x : Nat) (r : Rn) (c o : Nat) (v : V) (hc : c < 48) (ho : o < 48) (h : Hid (RR w own b x r)) (hW : Hid (WtOK r)) (hst : (r.tk o).st ≤ 3) (hv : (look E r c o).2 = some v) :
    Calls Tryz.prog 172 #[.pointer (some ⟨b, 0, none⟩), .int .i64 c, .int .i64 o] w fun e w' => e = .returned (.tuple #[vV v, .bool true]) ∧ Below w.heap.size w w' := by
  have hci : (c : Int) < 48 := by omega
  have hc0 : 0 ≤ (c : Int) := by omega
  have hoi : (o : Int) < 48 := by omega
  have ho0 : 0 ≤ (o : Int) := by omega
  have hT := h.out.tk o ho
  have s1 := hT.st
  have s1' := al hT.st
  have hlt := h.out.lt
  rw [← T_addr] at s1 s1'
  by_cases h3 : (r.tk o).st = 3
  · have HL : (r.tk o).an.v = v := by unfold look at hv; rw [if_pos h3] at hv; cases hv; rfl
    have hA := hT.ans h3
    have a2 := hA.k
    have a3 := hA.n
    have a4 := hA.s
    have e2 : T o + 11 + 2 = 290 + o * 16 + 11 + 2 := by unfold T; omega
    have e3 : T o + 11 + 3 = 290 + o * 16 + 11 + 2 + 1 := by unfold T; omega
    have e4 : T o + 11 + 4 = 290 + o * 16 + 11 + 2 + 2 := by unfold T; omega
    rw [e2] at a2
    rw [e3] at a3
    rw [e4] at a4
    have a2' := al a2
    have a3' := al a3
    have a4' := al a4
    have b3 : (((r.tk o).st : Int) == 3) = true := by simpa using (by omega : ((r.tk o).st : Int) = 3)
    rw [← HL]
    clear hA hT e2 e3 e4 h3 hv HL
    go_enter Tryz.func172, Tryz.ntmps172
    go_wp2_with fail
    refine bodyPost_ret (results_cell_tmp rfl _ _ _ ⟨w.heap.size, 0, none⟩ _ _ rfl (load52 (rnew _ _ _) rfl)) rfl ?_
    exact ⟨rfl, bl1 _ _⟩
  · have b3 : (((r.tk o).st : Int) == 3) = false := by simpa using (by omega : ((r.tk o).st : Int) ≠ 3)
    cases hw : E.W r.wts o c with
    | true =>
      have HL : Hid (cyc = v) := by unfold look at hv; rw [if_neg h3, if_pos hw] at hv; cases hv; exact rfl
      obtain ⟨W, HWt⟩ : ∃ W, W = true := ⟨true, rfl⟩
      have HWW : Hid (W = true ↔ ∃ m, along r.wts m o = c) := by unfold Hid; rw [HWt, ← hE.out r.wts hW.out.ends o c, hw]
      have HWt' : Hid (W = true) := HWt
      clear hw h3 hT HWt hv
      go_enter Tryz.func172, Tryz.ntmps172
      go_wp2_with fail
      refine (waitsFor_w _ own b x r o c ho hc (h.out.below (bl1 _ _) (fun _ _ => rfl)).1 hW W HWW).mono ?_
      rintro e w1 ⟨rfl, rfl⟩
      rw [HWt'.out]
      go_wp2_with fail
      refine (cycle_w _).mono ?_
      rintro e w2 ⟨rfl, hb2⟩
      have HR : Hid (w2.heap[w.heap.size]? = some (.cells #[.int .i64 0, .int .i64 0, .string ⟨#[]⟩] 52 (0, 0))) := by
        unfold Hid; rw [hb2.block _ (by simp)]; exact rnew w _ _
      obtain ⟨z0, z1, z2, z3, z4, z5⟩ := box3 rfl HR.out
      have HB : Hid (Below w.heap.size w w2) := (bl1 w _).trans (hb2.mono (by simp))
      clear hb2 s1 s1'
      unfold vV
      go_wp2_with fail
      refine bodyPost_ret (results_cell_tmp rfl _ _ _ ⟨w.heap.size, 0, none⟩ _ _ rfl (load52 (rset (rset (rset HR.out))) rfl)) rfl ?_
      rw [← HL.out]
      refine ⟨rfl, ?_⟩
      repeat (first | exact HB.out | refine Below.setCell ?_ (by dsimp only; omega) _)
    | false =>
      exfalso
      unfold look at hv
      rw [if_neg h3, if_neg (by rw [hw]; decide)] at hv
      cases hv
def RdgS (w : World) (own : Nat → Nat) (b x c : Nat) (r : Rn) (nd : Nd) (w' : World) : Prop := ∃ own' m, RR w' own' b x r ∧ RStep w own w' own' b x ∧ RunC w' own' b c (r.tk c).wt (r.tk c).kn (r.tk c).held (r.tk c).an m 1 nd ∧ MW m 1 nd (r.tk c).d ∧ (r.tk c).d [] = .inr nd ∧ nd.c < 48
def DoneS (w : World) (own : Nat → Nat) (b x c : Nat) (r : Rn) (w' : World) : Prop := ∃ own' m nd l y, RE w' own' b x r c ∧ RStep w own w' own' b x ∧ RunC w' own' b c (r.tk c).wt (r.tk c).kn (r.tk c).held (r.tk c).an m 2 nd ∧ m.vals = l ++ [y] ∧ (r.tk c).d [] = .inl y ∧ OKV y
theorem vals_split {m : Mc} {v : V} (h : m.vals.getLast? = some v) : m.vals = m.vals.dropLast ++ [v] := last_split h
theorem tsk2 {t : Tsk} (h : t.st = 2) : (⟨2, t.wt, t.kn, t.held, t.d, t.an⟩ : Tsk) = t := by cases t; cases h; rfl
theorem run175 (w : World) (own : Nat → Nat) (b x c : Nat) (r : Rn) (hc : c < 48) (h : RR w own b x r) (hs : (r.tk c).st = 2) :
    Calls Tryz.prog 175 #[.pointer (some ⟨b, 290 + c * 16 + 4, none⟩)] w fun e w' => (e = .returned (.int .i64 1) ∧ ∃ nd, Hid (RdgS w own b x c r nd w')) ∨ (e = .returned (.int .i64 2) ∧ Hid (DoneS w own b x c r w')) := by
  obtain ⟨m, mst, nd, hR, hM⟩ := h.runC hc hs
  obtain ⟨cs, hb, hsz⟩ := h.blk
  rw [T_addr]
  rcases hM with ⟨rfl, n, hn⟩ | ⟨rfl, hM⟩
  · have fin : ∀ (f : Nat) (mf : Mc) (out : Option Nd), goM f m = some (mf, out) → Calls Tryz.prog 175 #[.pointer (some ⟨b, T c + 4, none⟩)] w fun e w' => e = .returned (.int .i64 (stF out)) ∧ ∃ own', RE w' own' b x r c ∧ RStep w own w' own' b x ∧ RunC w' own' b c (r.tk c).wt (r.tk c).kn (r.tk c).held (r.tk c).an mf (stF out) (out.getD nd) ∧ (out ≠ none → mf.vals.length < mf.at') := by
      intro f mf out hg
      refine (run_w w own b (T c + 4) (cV c) (cG c) m nd f mf out (cols_c c) hR.mr hR.mi hg).mono ?_
      rintro e w' ⟨rfl, h1⟩
      obtain ⟨h2, h3, h4⟩ := h1.out
      obtain ⟨own', o1, o2, o3⟩ := hR.mstep hb h2 h3
      obtain ⟨r1, s1⟩ := (h.re c).chg hc o3 (fun k hk _ => o1 k hk)
      exact ⟨rfl, own', r1, s1, o2, h4⟩
    have done : ∀ (f : Nat) (mf : Mc) (v : V), goM f m = some (mf, none) → mf.vals.getLast? = some v → OKV v → (r.tk c).d [] = .inl v → Calls Tryz.prog 175 #[.pointer (some ⟨b, T c + 4, none⟩)] w fun e w' => (e = .returned (.int .i64 1) ∧ ∃ nd, Hid (RdgS w own b x c r nd w')) ∨ (e = .returned (.int .i64 2) ∧ Hid (DoneS w own b x c r w')) := by
      intro f mf v hg hl hv hd
      refine (fin f mf none hg).mono ?_
      rintro e w' ⟨rfl, own', r1, s1, o2, _⟩
      exact .inr ⟨rfl, own', mf, nd, _, v, r1, s1, o2, vals_split hl, hd, hv⟩
    cases n with
    | zero =>
      obtain ⟨f, mf, v, hg, hl, hv, hd⟩ := hn
      exact done f mf v hg hl hv hd
    | succ n =>
      rcases hn with ⟨f, mf, v, hg, hl, hv, hd⟩ | ⟨f, mf, nd', hg, hnc, hd, hk⟩
      · exact done f mf v hg hl hv hd
      · refine (fin f mf (some nd') hg).mono ?_
        rintro e w' ⟨rfl, own', r1, s1, o2, hl⟩
        have hMW : MW mf 1 nd' (r.tk c).d := .inr ⟨rfl, hd, hnc, hl (by simp), fun x hx => ⟨n, hk x hx⟩⟩
        refine .inl ⟨rfl, nd', own', mf, ?_, s1, o2, hMW, hd, hnc⟩
        have := r1.back hc (o2.tr hMW)
        rw [tsk2 hs, put_self] at this
        exact this
  · refine (run_idle w own b (T c + 4) (cV c) (cG c) m nd hR.mr).mono ?_
    rintro e w' ⟨rfl, rfl⟩
    exact .inl ⟨rfl, nd, own, m, h, RStep.refl _ _ _ _, hR, .inr ⟨rfl, hM⟩, hM.1, hM.2.1⟩
end Go.Proofs.YtiocnfambeochaaGreatDoor

/- A working out, walked: a cell that is begun goes on; what memory is then. -/
set_option linter.unusedVariables false
set_option linter.unusedSimpArgs false
namespace Go.Proofs.YtiocnfambeochaaGreatDoor
open Go.RowKit

theorem reads_close {w W w1 : World} {own : Nat → Nat} {b x c : Nat} {r : Rn} {wt : Int} {kn : List Ans} {held : Nat} {an : Ans} {m : Mc} {mst : Nat} {nd : Nd} {v v1 : Value} {y : Rd} (h : RE w own b x r c) (hc : c < 48) (hR : RunC w own b c wt kn held an m mst nd)
    (hs : SlC w own b (cR c) 274 5 v an.rs.length (an.rs.flatMap rdC)) (hW : Below w.heap.size w W)
    (hg : W.grownBy w1 v.ownBlock) (hob : (v1.ownBlock = v.ownBlock ∧ v.ownBlock ≠ none) ∨ (v1.ownBlock = some W.heap.size ∧ W.grownBy w1 none)) (hsl : Slc w1 274 5 v1 (an.rs.length + 1) (an.rs.flatMap rdC ++ rdC y)) :
    ∃ own', RE (w1.setCell ⟨b, T c + 12, none⟩ v1) own' b x r c ∧ RStep w own (w1.setCell ⟨b, T c + 12, none⟩ v1) own' b x ∧ RunC (w1.setCell ⟨b, T c + 12, none⟩ v1) own' b c wt kn held { an with rs := an.rs ++ [y] } m mst nd := by
  have hb := h.lt
  have hne : some b ≠ v.ownBlock := fun e => (hs.col b e.symm).2 rfl
  obtain ⟨cs, k1, k2⟩ := h.blk
  obtain ⟨own', o1, o2, o3⟩ := app_close (lo := T c + 12) (hi := T c + 13) hs hb hW hg hob hsl (j := T c + 12) (by omega) (by omega)
  have kb : w1.heap[b]? = some (.cells cs 187 (0, 0)) := by
    rw [hg.block b (Nat.lt_of_lt_of_le hb hW.size) hne, hW.block b hb]; exact k1
  obtain ⟨r1, s1⟩ := h.chg hc (o3.mono (C' := cC c) (lo' := T c) (hi' := T c + 16) (fun k e => .inr (.inr (.inr e))) (by omega) (by omega)) (fun k hk _ => o1 k hk)
  refine ⟨own', r1, s1, hR.reads k1 k2 hc o1 o3 (v1 := v1) ?_ ?_⟩
  · rw [cell_of_row _ b _ _ 187 (0, 0) (rset kb), Array.getElem?_setIfInBounds_self_of_lt (by unfold T; omega)]
  · rw [List.length_append, List.flatMap_append, List.flatMap_singleton]
    exact o2
theorem value_close {w w2 : World} {own : Nat → Nat} {b x c : Nat} {r : Rn} {wt : Int} {kn : List Ans} {held : Nat} {an : Ans} {m : Mc} {mst : Nat} {nd : Nd} (h : RE w own b x r c) (hc : c < 48) (hR : RunC w own b c wt kn held an m mst nd) (hb2 : Below w.heap.size w w2) (y : V) :
    RE (((w2.setCell ⟨b, T c + 13, none⟩ (.int .i64 y.k)).setCell ⟨b, T c + 14, none⟩ (.int .i64 y.n)).setCell ⟨b, T c + 15, none⟩ (.string y.s)) (zc own c) b x r c ∧
    RStep w own (((w2.setCell ⟨b, T c + 13, none⟩ (.int .i64 y.k)).setCell ⟨b, T c + 14, none⟩ (.int .i64 y.n)).setCell ⟨b, T c + 15, none⟩ (.string y.s)) (zc own c) b x ∧
    AnsAt (((w2.setCell ⟨b, T c + 13, none⟩ (.int .i64 y.k)).setCell ⟨b, T c + 14, none⟩ (.int .i64 y.n)).setCell ⟨b, T c + 15, none⟩ (.string y.s)) b (T c + 11) { an with v := y } (fun g => zc own c g = 0) := by
  obtain ⟨cs, k1, k2⟩ := h.blk
  have hb := h.lt
  have kb : w2.heap[b]? = some (.cells cs 187 (0, 0)) := by rw [hb2.block b hb]; exact k1
  have g : Chg own (cC c) b (T c + 13) (T c + 16) w (((w2.setCell ⟨b, T c + 13, none⟩ (.int .i64 y.k)).setCell ⟨b, T c + 14, none⟩ (.int .i64 y.n)).setCell ⟨b, T c + 15, none⟩ (.string y.s)) :=
    ((((Chg.below hb2 hb).trans ((Chg.set w2 b (T c + 13) _ own (cC c)).mono (fun _ h => h) (by omega) (by omega)) (fun _ _ => rfl)).trans ((Chg.set _ b (T c + 14) _ own (cC c)).mono (fun _ h => h) (by omega) (by omega)) (fun _ _ => rfl)).trans ((Chg.set _ b (T c + 15) _ own (cC c)).mono (fun _ h => h) (by omega) (by omega)) (fun _ _ => rfl))
  obtain ⟨r1, s1⟩ := h.chg (own' := own) hc (g.mono (fun _ h => h) (by omega) (by omega)) (fun _ _ _ => rfl)
  obtain ⟨r2, s2⟩ := r1.fade hc
  refine ⟨r2, s1.trans s2, ?_⟩
  have ka := rset (k := T c + 13) (u := .int .i64 y.k) kb
  have kc := rset (k := T c + 14) (u := .int .i64 y.n) ka
  have kd := rset (k := T c + 15) (u := .string y.s) kc
  obtain ⟨rv, e1, e2, e3⟩ := hR.ans.rs
  refine { f := by rw [g.cell k1 (by omega)]; exact hR.ans.f, rs := ⟨rv, by rw [g.cell k1 (by omega)]; exact e1, ?_, ?_⟩, k := ?_, n := ?_, s := ?_ }
  · refine e2.kept fun gg hgg => ?_
    have hl := e2.lt gg hgg
    have hgb := (e3 gg hgg).2
    rw [Below.heap_setCell _ _ _ _ hgb, Below.heap_setCell _ _ _ _ hgb, Below.heap_setCell _ _ _ _ hgb, hb2.block gg hl]
  · intro gg hgg
    unfold zc
    rw [if_pos (e3 gg hgg).1]
  · rw [cell_of_row _ b _ _ 187 (0, 0) kd, Array.getElem?_setIfInBounds_ne (by omega), Array.getElem?_setIfInBounds_ne (by omega), Array.getElem?_setIfInBounds_self_of_lt (by unfold T; omega)]
  · rw [cell_of_row _ b _ _ 187 (0, 0) kd, Array.getElem?_setIfInBounds_ne (by omega), Array.getElem?_setIfInBounds_self_of_lt (by simp only [Array.size_setIfInBounds]; unfold T; omega)]
  · rw [cell_of_row _ b _ _ 187 (0, 0) kd, Array.getElem?_setIfInBounds_self_of_lt (by simp only [Array.size_setIfInBounds]; unfold T; omega)]
def SVal (r : Rn) : Prop := ∀ o, (r.tk o).st = 3 → (r.tk o).an.v = cyc ∨ OKV (r.tk o).an.v
def RunS (E : Env) (w : World) (own : Nat → Nat) (b x c : Nat) (F : Rn) (k : Nat) (w' : World) : Prop := ∃ own' r', RR w' own' b x r' ∧ RStep w own w' own' b x ∧ WtOK r' ∧ (∀ o, (r'.tk o).st ≤ 3) ∧ (r'.tk c).st = 2 ∧ ActN k (r'.tk c).d ∧ SVal r' ∧ SW r'.store ∧ (r'.tk c).an.rs.length + k ≤ 90000 ∧ runP E c (k + 1) r' = F
theorem look_val {E : Env} {r : Rn} {c o : Nat} {v : V} (hV : SVal r) (h : (look E r c o).2 = some v) : v.eqB cyc = false → OKV v := by
  intro hne
  have hnc : v ≠ cyc := fun e => by rw [e, eqB_iff.2 rfl] at hne; cases hne
  unfold look at h
  by_cases h3 : (r.tk o).st = 3
  · rw [if_pos h3] at h
    cases h
    exact (hV o h3).resolve_left hnc
  · rw [if_neg h3] at h
    split at h
    · cases h; exact absurd rfl hnc
    · cases h
end Go.Proofs.YtiocnfambeochaaGreatDoor
