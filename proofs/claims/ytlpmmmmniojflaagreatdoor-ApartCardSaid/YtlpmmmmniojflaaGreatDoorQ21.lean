/- Texts put together. -/
import Derived.Test.YtlpmmmmniojflaaGreatDoorStpU
import Derived.Test.YtlpmmmmniojflaaGreatDoorStpG
import Derived.Test.YtlpmmmmniojflaaGreatDoorStpD
import Derived.WalkKit
import Derived.WalkMore
import Derived.Scope
import Derived.Deep.RegionWith
/- The machine in memory: tally, choose, failed, rescue. -/
set_option linter.unusedVariables false
set_option linter.unusedSimpArgs false
namespace Go.Proofs.YtlpmmmmniojflaaGreatDoor
open Go.RowKit
theorem fld52 (a b c : Value) (w : World) : (Instr.field 52 (.agg #[a, b, c]) 0).run Tryz.prog w = .ok a w := by
  simp [Instr.field, run_underlying Tryz.underlying52, asAgg, part]
set_option maxRecDepth 100000 in
set_option maxHeartbeats 2000000 in
theorem tally_no (w : World) (own : Nat → Nat) (b o cv cg : Nat) (m : Mc) (st : Nat) (nd : Nd) (l : List V) (y : V) (hC : Hid (Cols cv cg)) (hM : Hid (MR w own b o cv cg m st nd)) (hl : Hid (m.vals = l ++ [y])) (h1 : y.k ≠ 1) :
    Calls Tryz.prog 224 #[.pointer (some ⟨b, o, none⟩)] w fun e w' => e = .returned (.tuple #[]) ∧ Hid (MStep w own b o cv cg w' { m with vals := l } st nd) := by
  have h1' : (y.k == 1) = false := by simpa using h1
  clear h1
  go_enter Tryz.func224, Tryz.ntmps224
  go_wp2_with fail
  refine (mtake _ own b o cv cg m st nd l y hC hM hl.out).mono ?_
  rintro e w1 ⟨rfl, h1⟩
  unfold vV
  have f52 := fld52
  go_wp2_with fail
  refine bodyPost_end (results_none rfl _ _ _) rfl ?_
  exact ⟨rfl, h1⟩
set_option maxRecDepth 100000 in
set_option maxHeartbeats 2000000 in
theorem tally_yes (w : World) (own : Nat → Nat) (b o cv cg : Nat) (m : Mc) (st : Nat) (nd : Nd) (l : List V) (x y : V) (hC : Hid (Cols cv cg)) (hM : Hid (MR w own b o cv cg m st nd)) (hl : Hid (m.vals = l ++ [x] ++ [y])) (hn : Hid (m.vals.length ≤ 100000)) (hx : Hid (OKV x)) (h1 : y.k = 1) :
    Calls Tryz.prog 224 #[.pointer (some ⟨b, o, none⟩)] w fun e w' => e = .returned (.tuple #[]) ∧ Hid (MStep w own b o cv cg w' { m with vals := l ++ [vAdd x (vI 1)] } st nd) := by
  have h1' : (y.k == 1) = true := by simpa using h1
  have hln : Hid (l.length ≤ 100000) := by have := hn.out; rw [hl.out] at this; simp at this; unfold Hid; omega
  have HW : Hid (Gives 239 #[vV x, vV (vI 1)] (vV (vAdd x (vI 1)))) := add_w x (vI 1) hx.out.1 (by unfold I64 vI; simp)
  have HI : Hid (Gives 204 #[.int .i64 1] (vV (vI 1))) := int_w 1
  obtain ⟨r, hr⟩ : ∃ r, vAdd x (vI 1) = r := ⟨_, rfl⟩
  obtain ⟨z, hz⟩ : ∃ z, vV (vI 1) = z := ⟨_, rfl⟩
  rw [hr] at HW ⊢
  rw [hz] at HW HI
  clear hr hz h1
  go_enter Tryz.func224, Tryz.ntmps224
  go_wp2_with fail
  refine (mtake _ own b o cv cg m st nd (l ++ [x]) y hC hM hl.out).mono ?_
  rintro e w1 ⟨rfl, h1⟩
  unfold vV
  have f52 := fld52
  go_wp2_with fail
  obtain ⟨own1, e1, M1, g1⟩ := h1.out
  refine (mtake _ own1 b o cv cg { m with vals := l ++ [x] } st nd l x hC M1 rfl).mono ?_
  rintro e w2 ⟨rfl, h2⟩
  have H2 : Hid (MStep w own b o cv cg w2 { m with vals := l } st nd) := MStep.comp e1 g1 h2.out
  clear h1 h2 e1 M1 g1
  go_wp2_with fail
  refine (HI.out _).mono ?_
  rintro e w3 ⟨rfl, hb3⟩
  have H3 : Hid (MStep w own b o cv cg w3 { m with vals := l } st nd) := H2.out.then hb3
  clear hb3 H2
  go_wp2_with fail
  refine (HW.out _).mono ?_
  rintro e w4 ⟨rfl, hb4⟩
  have H4 : Hid (MStep w own b o cv cg w4 { m with vals := l } st nd) := H3.out.then hb4
  clear hb4 H3
  unfold vV
  go_wp2_with fail
  obtain ⟨own4, e4, M4, g4⟩ := H4.out
  refine (mput _ own4 b o cv cg { m with vals := l } st nd r hC M4 hln.out).mono ?_
  rintro e w5 ⟨rfl, h5⟩
  have HF : Hid (MStep w own b o cv cg w5 { m with vals := l ++ [r] } st nd) := MStep.comp e4 g4 h5.out
  clear e4 M4 g4 h5
  go_wp2_with fail
  refine bodyPost_end (results_none rfl _ _ _) rfl ?_
  exact ⟨rfl, HF⟩
set_option maxRecDepth 100000 in
set_option maxHeartbeats 2000000 in
theorem choose_type (w : World) (own : Nat → Nat) (b o cv cg : Nat) (m : Mc) (st : Nat) (nd : Nd) (l : List V) (y : V) (t : Nat) (hC : Hid (Cols cv cg)) (hM : Hid (MR w own b o cv cg m st nd)) (hl : Hid (m.vals = l ++ [y])) (hn : Hid (m.vals.length ≤ 100000)) (h1 : y.k ≠ 2) :
    Calls Tryz.prog 225 #[.pointer (some ⟨b, o, none⟩), .int .i64 t] w fun e w' => e = .returned (.tuple #[]) ∧ Hid (MStep w own b o cv cg w' { m with vals := l ++ [vE 4] } st nd) := by
  have h1' : (y.k != 2) = true := by simpa using h1
  have hln : Hid (l.length ≤ 100000) := by have := hn.out; rw [hl.out] at this; simp at this; unfold Hid; omega
  clear h1
  go_enter Tryz.func225, Tryz.ntmps225
  go_wp2_with fail
  refine (mtake _ own b o cv cg m st nd l y hC hM hl.out).mono ?_
  rintro e w1 ⟨rfl, h1⟩
  unfold vV
  go_wp2_with fail
  have H1 : Hid (MStep w own b o cv cg (w1.alloc (Obj.cells #[Value.int IntKind.i64 y.k, Value.int IntKind.i64 y.n, Value.string y.s] 52)) { m with vals := l } st nd) := h1.out.then (bl1 _ _)
  refine (error_w 4 _).mono ?_
  rintro e w2 ⟨rfl, hb2⟩
  have H2 : Hid (MStep w own b o cv cg w2 { m with vals := l } st nd) := H1.out.then hb2
  clear hb2 H1 h1
  go_wp2_with fail
  obtain ⟨own4, e4, M4, g4⟩ := H2.out
  refine (mput _ own4 b o cv cg { m with vals := l } st nd (vE 4) hC M4 hln.out).mono ?_
  rintro e w5 ⟨rfl, h5⟩
  have HF : Hid (MStep w own b o cv cg w5 { m with vals := l ++ [vE 4] } st nd) := MStep.comp e4 g4 h5.out
  clear e4 M4 g4 h5
  go_wp2_with fail
  refine bodyPost_end (results_none rfl _ _ _) rfl ?_
  exact ⟨rfl, HF⟩
set_option maxRecDepth 100000 in
set_option maxHeartbeats 2000000 in
theorem choose_yes (w : World) (own : Nat → Nat) (b o cv cg : Nat) (m : Mc) (st : Nat) (nd : Nd) (l : List V) (y : V) (t : Nat) (hC : Hid (Cols cv cg)) (hM : Hid (MR w own b o cv cg m st nd)) (hl : Hid (m.vals = l ++ [y])) (h1 : y.k = 2) (h0 : y.n ≠ 0) :
    Calls Tryz.prog 225 #[.pointer (some ⟨b, o, none⟩), .int .i64 t] w fun e w' => e = .returned (.tuple #[]) ∧ Hid (MStep w own b o cv cg w' { m with vals := l } st nd) := by
  have h1' : (y.k != 2) = false := by simpa using h1
  have h0' : (y.n == 0) = false := by simpa using h0
  clear h1 h0
  go_enter Tryz.func225, Tryz.ntmps225
  go_wp2_with fail
  refine (mtake _ own b o cv cg m st nd l y hC hM hl.out).mono ?_
  rintro e w1 ⟨rfl, h1⟩
  unfold vV
  go_wp2_with fail
  refine bodyPost_end (results_none rfl _ _ _) rfl ?_
  exact ⟨rfl, h1.out.then (bl1 _ _)⟩
set_option maxRecDepth 100000 in
set_option maxHeartbeats 2000000 in
theorem choose_no (w : World) (own : Nat → Nat) (b o cv cg : Nat) (m : Mc) (st : Nat) (nd : Nd) (l : List V) (y : V) (t : Nat) (hC : Hid (Cols cv cg)) (hM : Hid (MR w own b o cv cg m st nd)) (hl : Hid (m.vals = l ++ [y])) (h1 : y.k = 2) (h0 : y.n = 0) :
    Calls Tryz.prog 225 #[.pointer (some ⟨b, o, none⟩), .int .i64 t] w fun e w' => e = .returned (.tuple #[]) ∧ Hid (MStep w own b o cv cg w' { m with at' := t, vals := l } st nd) := by
  have h1' : (y.k != 2) = false := by simpa using h1
  have h0' : (y.n == 0) = true := by simpa using h0
  clear h1 h0
  go_enter Tryz.func225, Tryz.ntmps225
  go_wp2_with fail
  refine (mtake _ own b o cv cg m st nd l y hC hM hl.out).mono ?_
  rintro e w1 ⟨rfl, h1⟩
  obtain ⟨own1, e1, M1, g1⟩ := h1.out
  have HM1 : Hid _ := M1
  have hat := M1.at'
  have hat1 := al M1.at'
  have hf := M1.blk.frozen (o + 1)
  have hf1 := afz (M1.blk.frozen (o + 1)) M1.blk.lt
  have hb := M1.blk.lt
  have n1 : b ≠ w1.heap.size := by omega
  have n2 : w1.heap.size ≠ b := by omega
  have HE1 : Hid _ := e1
  have HG1 : Hid _ := g1
  clear M1 e1 g1 h1
  unfold vV
  go_wp2_with fail
  refine bodyPost_end (results_none rfl _ _ _) rfl ⟨rfl, ?_⟩
  have hB := HM1.out.blk
  refine MStep.comp HE1.out HG1.out ?_
  exact MStep.state (p := t) HM1.out hC.out (((Chg.refl _ _ _ _ _ _).put (by omega) (by omega) _).al hb _)
    (al (hB.cset (by omega) _) _)
    (al (by rw [hB.coff (by omega)]; exact HM1.out.st) _)
    (al (by rw [hB.coff (by omega)]; exact HM1.out.nc) _)
    (al (by rw [hB.coff (by omega)]; exact HM1.out.na) _)
end Go.Proofs.YtlpmmmmniojflaaGreatDoor
/- The machine in memory: failed, rescue. -/
set_option linter.unusedVariables false
set_option linter.unusedSimpArgs false
namespace Go.Proofs.YtlpmmmmniojflaaGreatDoor
open Go.RowKit
set_option maxRecDepth 100000 in
set_option maxHeartbeats 2000000 in
theorem failed_w (w : World) (own : Nat → Nat) (b o cv cg : Nat) (m : Mc) (st : Nat) (nd : Nd) (hM : Hid (MR w own b o cv cg m st nd)) :
    Calls Tryz.prog 200 #[.pointer (some ⟨b, o, none⟩)] w fun e w' => e = .returned (.bool (failB m)) ∧ Below w.heap.size w w' := by
  rcases List.eq_nil_or_concat m.vals with h0 | ⟨l, y, h0⟩
  · obtain ⟨v, hv, hs⟩ := hM.out.vals
    rw [h0] at hs
    obtain ⟨q, cp, rfl⟩ := hs.sl.len
    have HF : Hid (failB m = false) := by unfold Hid failB; rw [h0]; rfl
    clear hs h0
    go_enter Tryz.func200, Tryz.ntmps200
    go_wp2_with fail
    go_ret
    rw [HF.out]
    exact ⟨rfl, Below.refl _ _⟩
  · have hV := hM.out.vals
    rw [h0] at hV
    rw [List.concat_eq_append] at hV
    have HV : Hid _ := hV
    obtain ⟨g, p, cap, hv, hcap, hm, _⟩ := vs_last hV
    have h1 : (0 : Int) < (l.length : Int) + 1 := by omega
    have HF : Hid (failB m = decide (y.k = 4)) := by unfold Hid failB; rw [h0, List.concat_eq_append, List.getLast?_concat]
    have f52 := fld52
    clear hV h0 hcap hm
    by_cases h4 : y.k = 4
    · have h4' : (y.k == 4) = true := by simpa using h4
      go_enter Tryz.func200, Tryz.ntmps200
      go_wp2_with fail
      refine (top_w _ own b o cv l y HV).mono ?_
      rintro e w1 ⟨rfl, hb1⟩
      unfold vV
      go_wp2_with fail
      go_ret
      rw [HF.out]
      exact ⟨ret_bool (by simp [h4]), hb1⟩
    · have h4' : (y.k == 4) = false := by simpa using h4
      go_enter Tryz.func200, Tryz.ntmps200
      go_wp2_with fail
      refine (top_w _ own b o cv l y HV).mono ?_
      rintro e w1 ⟨rfl, hb1⟩
      unfold vV
      go_wp2_with fail
      go_ret
      rw [HF.out]
      exact ⟨ret_bool (by simp [h4]), hb1⟩
theorem gs_last {w : World} {own : Nat → Nat} {b o cg : Nat} {l : List (Nat × Nat)} {y : Nat × Nat} (h : GS w own b o cg (l ++ [y])) : ∃ g p cap, w.cell? ⟨b, o + 6, none⟩ = some (.slice (some ⟨g, p, none⟩) (l.length + 1) cap) ∧ l.length + 1 ≤ cap ∧ l.length + 1 ≤ maxLen ∧
    w.cell? ⟨g, p + l.length * 2, none⟩ = some (.int .i64 y.1) ∧ w.cell? ⟨g, p + l.length * 2 + 1, none⟩ = some (.int .i64 y.2) ∧ g ≠ b ∧
    SlC w own b cg 315 2 (.slice (some ⟨g, p, none⟩) (l.length + 1) cap) (l.length + 1) ((l ++ [y]).flatMap gC) := by
  obtain ⟨v, hv, hs⟩ := h
  obtain ⟨g, p, cap, rfl, hcap⟩ := hs.sl.at (by simp)
  have c0 := hs.sl.cell _ _ (flat3_get gC_len (l ++ [y]) l.length y 0 _ (by simp) rfl)
  have c1 := hs.sl.cell _ _ (flat3_get gC_len (l ++ [y]) l.length y 1 _ (by simp) rfl)
  have e : (l ++ [y]).length = l.length + 1 := by simp
  have hm := hs.sl.max
  rw [e] at hv hcap hm hs
  exact ⟨g, p, cap, hv, hcap, hm, c0, by rw [Nat.add_assoc]; exact c1, (hs.col g rfl).2, hs⟩
theorem cut_close {W : World} {own : Nat → Nat} {b o cv cg st g p cap n : Nat} {m : Mc} {nd : Nd} (hM : MR W own b o cv cg m st nd) (hC : Cols cv cg) (h : Nat) (t : Nat) (hh : h ≤ m.vals.length)
    (hs : SlC W own b cv 52 3 (.slice (some ⟨g, p, none⟩) m.vals.length cap) m.vals.length (m.vals.flatMap vC)) :
    MStep W own b o cv cg ((W.setCell ⟨b, o + 1, none⟩ (.int .i64 t)).setCell ⟨b, o + 5, none⟩ (.slice (some ⟨g, p, none⟩) h cap)) { m with at' := t, vals := m.vals.take h } st nd := by
  have hb := hM.blk.lt
  have hB := hM.blk
  have hB1 := hB.set (o + 1) (.int .i64 t)
  have M1 := (MStep.state (p := t) hM hC ((Chg.refl own (fun _ => False) b (o + 1) (o + 5) W).put (j := o + 1) (by omega) (by omega) (.int .i64 t)) (hB.cset (by omega) _) (by rw [hB.coff (by omega)]; exact hM.st) (by rw [hB.coff (by omega)]; exact hM.nc) (by rw [hB.coff (by omega)]; exact hM.na))
  obtain ⟨o1, e1, m1, c1⟩ := M1
  have hs1 : SlC (W.setCell ⟨b, o + 1, none⟩ (.int .i64 t)) own b cv 52 3 (.slice (some ⟨g, p, none⟩) m.vals.length cap) m.vals.length (m.vals.flatMap vC) := ⟨hs.sl.kept fun k hk => Below.heap_setCell _ _ _ _ (hs.col k hk).2, hs.col⟩
  have g1 : Chg own (fun c => c = cv) b (o + 5) (o + 6) (W.setCell ⟨b, o + 1, none⟩ (.int .i64 t)) ((W.setCell ⟨b, o + 1, none⟩ (.int .i64 t)).setCell ⟨b, o + 5, none⟩ (.slice (some ⟨g, p, none⟩) h cap)) := (Chg.refl _ _ _ _ _ _).put (by omega) (by omega) _
  have hsz : (W.setCell ⟨b, o + 1, none⟩ (.int .i64 t)).heap.size = W.heap.size := by simp [World.setCell]
  have m1' : MR (W.setCell ⟨b, o + 1, none⟩ (.int .i64 t)) own b o cv cg { m with at' := t } st nd := m1.below (Below.refl _ _) (fun k hk => (e1 k (by rw [← hsz]; exact hk)).symm)
  refine ⟨own, fun _ _ => rfl, m1'.setV hC g1 (fun _ _ => rfl) ⟨_, hB1.cset (by omega) _, ?_, fun k hk => hs1.col k hk⟩, c1.trans (g1.mono (fun _ h => .inl h) (by omega) (by omega)) (fun _ _ => rfl)⟩
  have := hs1.sl.cut (m := h) hh
  have e : (m.vals.take h).length = h := by simp; omega
  have e2 : (m.vals.flatMap vC).take (h * 3) = (m.vals.take h).flatMap vC := by
    have := flatTake3 vC_len (m.vals.take h) (m.vals.drop h)
    rw [List.take_append_drop, e] at this
    exact this
  rw [e2] at this
  rw [e]
  exact this.kept fun k hk => Below.heap_setCell _ _ _ _ (hs1.col k hk).2
set_option maxRecDepth 100000 in
set_option maxHeartbeats 4000000 in
theorem rescue_w (w : World) (own : Nat → Nat) (b o cv cg : Nat) (m : Mc) (st : Nat) (nd : Nd) (gl : List (Nat × Nat)) (t h : Nat) (hC : Hid (Cols cv cg)) (hM : Hid (MR w own b o cv cg m st nd)) (hgl : Hid (m.gd = gl ++ [(t, h)])) (hh : h ≤ m.vals.length) (h0 : 0 < m.vals.length) (hn : Hid (m.vals.length ≤ 100000)) :
    Calls Tryz.prog 202 #[.pointer (some ⟨b, o, none⟩)] w fun e w' => e = .returned (.tuple #[]) ∧ Hid (MStep w own b o cv cg w' ⟨m.code, t, m.vals.take h ++ [vB true], gl⟩ st nd) := by
  have hg := hM.out.gds
  rw [hgl.out] at hg
  obtain ⟨g, p, cap, hgv, hgc, hgm, c0, c1, hgb, hgs⟩ := gs_last hg
  obtain ⟨vv, hvv, hvs⟩ := hM.out.vals
  obtain ⟨gv, pv, capv, rfl, hcv⟩ := hvs.sl.at h0
  have hvm := hvs.sl.max
  unfold maxLen at hgm hvm
  have HGS : Hid _ := hgs
  have HVS : Hid _ := hvs
  have hb := hM.out.blk.lt
  have hat := hM.out.at'
  have f1 := hM.out.blk.frozen (o + 1)
  have f5 := hM.out.blk.frozen (o + 5)
  have f6 := hM.out.blk.frozen (o + 6)
  have w1' : wrap64 ((gl.length : Int) + 1 - 1) = gl.length := by unfold wrap64; omega
  have w2' : IntKind.i64.wrap ((gl.length : Int) + 1 - 1) = gl.length := by rw [IntKind.wrap_i64]; omega
  have w3' : (gl.length : Int) + 1 - 1 = gl.length := by omega
  have w4' : IntKind.i64.wrap (gl.length : Int) = gl.length := by rw [IntKind.wrap_i64]; omega
  have p1 : 0 ≤ (gl.length : Int) := by omega
  have p2 : gl.length ≤ cap := by omega
  have p3 : (gl.length : Int) < (gl.length : Int) + 1 := by omega
  have p4 : h ≤ capv := by omega
  have p5 : 0 ≤ (h : Int) := by omega
  have HH : Hid (h ≤ m.vals.length) := hh
  clear hg hgs hvs hh h0 hgm hvm
  go_enter Tryz.func202, Tryz.ntmps202
  go_wp2_with fail
  go_region
  have H2 : Hid (MStep w own b o cv cg ((w.setCell ⟨b, o + 1, none⟩ (.int .i64 t)).setCell ⟨b, o + 5, none⟩ (.slice (some ⟨gv, pv, none⟩) h capv)).drew { m with at' := t, vals := m.vals.take h } st nd) := (cut_close (n := 0) hM.out hC.out h t HH.out HVS.out).then (Below.refl _ _).drew
  generalize ((w.setCell ⟨b, o + 1, none⟩ (.int .i64 t)).setCell ⟨b, o + 5, none⟩ (.slice (some ⟨gv, pv, none⟩) h capv)).drew = W2 at *
  obtain ⟨own2, e2, M2, g2⟩ := H2.out
  have hg2 := M2.gds
  dsimp only at hg2
  rw [hgl.out] at hg2
  obtain ⟨g', p', cap', hgv', hgc', hgm', _, _, _, hgs'⟩ := gs_last hg2
  have HGS' : Hid _ := hgs'
  have HM2 : Hid _ := M2
  have HE2 : Hid _ := e2
  have HG2 : Hid _ := g2
  have p2' : gl.length ≤ cap' := by omega
  have f6' := M2.blk.frozen (o + 6)
  clear hgv hgc c0 c1 hvv hcv HGS HVS hb hat f1 f5 f6 w1' w2' w3' w4' p2 p3 p4 p5 hgs' hgm' hgc' hg2 M2 e2 g2 H2
  go_wp2_with fail
  have H3 : Hid (MStep w own b o cv cg (W2.setCell ⟨b, o + 6, none⟩ (.slice (some ⟨g', p', none⟩) gl.length cap')) { m with at' := t, vals := m.vals.take h, gd := gl } st nd) := MStep.comp HE2.out HG2.out (unguard_close HM2.out hC.out hgl.out HGS'.out)
  refine (bool_w true _).mono ?_
  rintro e w4 ⟨rfl, hb4⟩
  have H4 : Hid (MStep w own b o cv cg w4 { m with at' := t, vals := m.vals.take h, gd := gl } st nd) := H3.out.then hb4
  clear hb4 H3 HE2 HG2 HM2 HGS'
  go_wp2_with fail
  obtain ⟨own4, e4, M4, g4⟩ := H4.out
  have hln : (m.vals.take h).length ≤ 100000 := by have := hn.out; rw [List.length_take]; omega
  refine (mput _ own4 b o cv cg { m with at' := t, vals := m.vals.take h, gd := gl } st nd (vB true) hC M4 hln).mono ?_
  rintro e w5 ⟨rfl, h5⟩
  have HF : Hid (MStep w own b o cv cg w5 ⟨m.code, t, m.vals.take h ++ [vB true], gl⟩ st nd) := MStep.comp e4 g4 h5.out
  clear h5 e4 M4 g4 H4 hln
  go_wp2_with fail
  refine bodyPost_end (results_none rfl _ _ _) rfl ?_
  exact ⟨rfl, HF⟩
end Go.Proofs.YtlpmmmmniojflaaGreatDoor
/- The machine in memory: a step, whatever the instruction. -/
set_option linter.unusedVariables false
set_option linter.unusedSimpArgs false
namespace Go.Proofs.YtlpmmmmniojflaaGreatDoor
open Go.RowKit
def stO (o : Option Nd) : Nat := match o with | none => 0 | some _ => 1
theorem step_all (w : World) (own : Nat → Nat) (b o cv cg : Nat) (m : Mc) (nd : Nd) (i : Ins) (m' : Mc) (out : Option Nd) (hC : Cols cv cg) (hM : MR w own b o cv cg m 0 nd) (hI : MI m) (hi : m.code[m.at']? = some i) (hs : stepM m i = some (m', out)) :
    Calls Tryz.prog 201 #[.pointer (some ⟨b, o, none⟩), insV i.op i.v i.cell i.to] w fun e w' => e = .returned (.tuple #[]) ∧ Hid (MStep w own b o cv cg w' m' (stO out) (out.getD nd)) := by
  obtain ⟨hO, hlt⟩ := hI.ins hi
  have hp : m.at' ≤ 100000 := by have := hI.small; omega
  have hn : m.vals.length ≤ 100000 := by have := hI.len; omega
  have hgn : m.gd.length ≤ 100000 := by have := hI.gl; omega
  obtain ⟨op, v, c, t⟩ := i
  unfold stepM at hs
  dsimp only at hs hO ⊢
  by_cases e0 : op = 0
  · rw [if_pos e0] at hs
    cases hs
    subst e0
    exact step_put w own b o cv cg m 0 nd v c t hC hM hn hp
  rw [if_neg e0] at hs
  by_cases e1 : op = 1 ∨ op = 2
  · rw [if_pos e1] at hs
    cases hs
    rcases e1 with e1 | e1
    · subst e1
      exact step_read1 w own b o cv cg m 0 nd v c t hC hM hp
    · subst e1
      exact step_read2 w own b o cv cg m 0 nd v c t hC hM hp
  rw [if_neg e1] at hs
  by_cases e14 : op = 14
  · rw [if_pos e14] at hs
    cases hs
    subst e14
    exact step_jump w own b o cv cg m 0 nd v c t hC hM hp
  rw [if_neg e14] at hs
  by_cases e15 : op = 15
  · rw [if_pos e15] at hs
    cases hs
    subst e15
    exact step_guard w own b o cv cg m 0 nd v c t hC hM hgn hp
  rw [if_neg e15] at hs
  cases hy : m.vals.getLast? with
  | none => rw [hy] at hs; cases hs
  | some y =>
  rw [hy] at hs
  dsimp only at hs
  have hys := last_split hy
  have hyo : OKV y := hI.vals y (List.mem_of_getLast? hy)
  by_cases e3 : op = 3
  · rw [if_pos e3] at hs
    subst e3
    by_cases y3 : y.k ≠ 3
    · rw [if_pos y3] at hs
      cases hs
      exact step_named w own b o cv cg m 0 nd v c t hC hM _ _ _ (fun W own1 M1 => mrn_type W own1 b o cv cg { m with at' := m.at' + 1 } 0 nd m.vals.dropLast y hC M1 hys hn y3) hp
    · rw [if_neg y3] at hs
      cases hc : cellN y.s.data.toList with
      | none =>
        rw [hc] at hs
        cases hs
        exact step_named w own b o cv cg m 0 nd v c t hC hM _ _ _ (fun W own1 M1 => mrn_ref W own1 b o cv cg { m with at' := m.at' + 1 } 0 nd m.vals.dropLast y hC M1 hys hn (Classical.not_not.1 y3) hc) hp
      | some c' =>
        rw [hc] at hs
        cases hs
        exact step_named w own b o cv cg m 0 nd v c t hC hM _ _ _ (fun W own1 M1 => mrn_ok W own1 b o cv cg { m with at' := m.at' + 1 } 0 nd m.vals.dropLast y hC M1 hys hn (Classical.not_not.1 y3) c' hc) hp
  rw [if_neg e3] at hs
  by_cases e4 : op = 4
  · rw [if_pos e4] at hs
    cases hs
    subst e4
    exact step_neg w own b o cv cg m 0 nd v c t hC hM m.vals.dropLast y hys hn hyo hp
  rw [if_neg e4] at hs
  by_cases e13 : op = 13
  · rw [if_pos e13] at hs
    subst e13
    by_cases y2 : y.k ≠ 2
    · rw [if_pos y2] at hs
      cases hs
      exact step_choose w own b o cv cg m 0 nd v c t hC hM _ _ _ (fun W own1 M1 => choose_type W own1 b o cv cg { m with at' := m.at' + 1 } 0 nd m.vals.dropLast y t hC M1 hys hn y2) hp
    · rw [if_neg y2] at hs
      by_cases yn : y.n = 0
      · rw [if_pos yn] at hs
        cases hs
        exact step_choose w own b o cv cg m 0 nd v c t hC hM _ _ _ (fun W own1 M1 => choose_no W own1 b o cv cg { m with at' := m.at' + 1 } 0 nd m.vals.dropLast y t hC M1 hys (Classical.not_not.1 y2) yn) hp
      · rw [if_neg yn] at hs
        cases hs
        exact step_choose w own b o cv cg m 0 nd v c t hC hM _ _ _ (fun W own1 M1 => choose_yes W own1 b o cv cg { m with at' := m.at' + 1 } 0 nd m.vals.dropLast y t hC M1 hys (Classical.not_not.1 y2) yn) hp
  rw [if_neg e13] at hs
  by_cases e16 : op = 16
  · rw [if_pos e16] at hs
    subst e16
    by_cases g0 : m.gd = []
    · rw [if_pos g0] at hs; cases hs
    · rw [if_neg g0] at hs
      cases hs
      have hgs : m.gd = m.gd.dropLast ++ [m.gd.getLast g0] := (List.dropLast_concat_getLast g0).symm
      exact step_unguard w own b o cv cg m 0 nd v c t hC hM m.vals.dropLast y hys hn m.gd.dropLast _ hgs hgn hp
  rw [if_neg e16] at hs
  by_cases e12 : op = 12 ∧ y.k ≠ 1
  · rw [if_pos e12] at hs
    cases hs
    obtain ⟨e12, y1⟩ := e12
    subst e12
    exact step_tally w own b o cv cg m 0 nd v c t hC hM _ _ _ (fun W own1 M1 => tally_no W own1 b o cv cg { m with at' := m.at' + 1 } 0 nd m.vals.dropLast y hC M1 hys y1) hp
  rw [if_neg e12] at hs
  cases hx : m.vals.dropLast.getLast? with
  | none => rw [hx] at hs; cases hs
  | some x =>
    rw [hx] at hs
    have hxs := last_split hx
    have hxo : OKV x := hI.vals x (mem_dropLast (List.mem_of_getLast? hx))
    have hl : m.vals = m.vals.dropLast.dropLast ++ [x] ++ [y] := by rw [← hxs]; exact hys
    cases hs
    by_cases e : op = 12
    · subst e
      have y1 : y.k = 1 := Classical.byContradiction fun h => e12 ⟨rfl, h⟩
      simp only [if_pos]
      exact step_tally w own b o cv cg m 0 nd v c t hC hM _ _ _ (fun W own1 M1 => tally_yes W own1 b o cv cg { m with at' := m.at' + 1 } 0 nd m.vals.dropLast.dropLast x y hC M1 hl hn hxo y1) hp
    · simp only [if_neg e]
      have hop : op ≤ 16 := hO.op
      exact step_two w own b o cv cg m 0 nd v c t hC hM op (by omega) (by omega) m.vals.dropLast.dropLast x y hl hn hxo hyo hp
end Go.Proofs.YtlpmmmmniojflaaGreatDoor
/- A scope in which the run jumps to labels, by a number that falls with each jump. -/
namespace Go.Proofs.YtlpmmmmniojflaaGreatDoor
open Go.RowKit
def jumpsQ (J : Nat → Act → World → Prop) (Q : Exit → Act → World → Prop) : Exit → Act → World → Prop
  | .goto l, a, w => J l a w
  | e, a, w => Q e a w
section
variable {P : Program} {a : Act} {w : World} {Q : Exit → Act → World → Prop}
theorem jumps_ret {J : Nat → Act → World → Prop} : jumpsQ J Q .ret a w = Q .ret a w := rfl
theorem wp_scope_ghost {c : Code} (J : Nat → Nat → Act → World → Prop)
    (first : c.wp P (jumpsQ (fun l a w => ∃ n, J n l a w) Q) a w)
    (pass : ∀ n l a w, J n l a w → ∃ rest, findLabel c l = some rest ∧ rest.wp P (jumpsQ (fun l' a' w' => ∃ n', n' < n ∧ J n' l' a' w') Q) a w) : (Code.scope c).wp P Q a w := by
  intro b k cs
  have key : ∀ n l a w, J n l a w → ∃ rest, findLabel c l = some rest ∧ ∃ e a' w', Q e a' w' ∧ Arrives P (lone (b.at a (.code rest :: .inScope c :: k)) cs w) b k cs e a' w' := by
    intro n
    induction n using Nat.strongRecOn with
    | _ n ih =>
      intro l a w hJ
      obtain ⟨rest, hf, hp⟩ := pass n l a w hJ
      refine ⟨rest, hf, ?_⟩
      obtain ⟨e, a₁, w₁, hq, harr⟩ := hp b (.inScope c :: k) cs
      cases e with
      | normal => exact ⟨.normal, a₁, w₁, hq, Steps.trans harr (.one step_inScope)⟩
      | exit id => exact ⟨.exit id, a₁, w₁, hq, fun k' hk => harr k' (by simp [exitTo, hk])⟩
      | goto l' =>
        obtain ⟨n', hlt, hJ'⟩ := hq
        obtain ⟨rest', hf', e₂, a₂, w₂, hq₂, harr₂⟩ := ih n' hlt l' a₁ w₁ hJ'
        have hg : gotoIn l' (.inScope c :: k) = some (.code rest' :: .inScope c :: k) := by simp [gotoIn, hf']
        exact ⟨e₂, a₂, w₂, hq₂, .of_steps (harr _ hg) harr₂⟩
      | ret => exact ⟨_, a₁, w₁, hq, harr⟩
      | panic ch => exact ⟨_, a₁, w₁, hq, harr⟩
      | outgrown => exact ⟨_, a₁, w₁, hq, harr⟩
  obtain ⟨e, a₁, w₁, hq, harr⟩ := first b (.inScope c :: k) cs
  cases e with
  | normal => exact ⟨.normal, a₁, w₁, hq, .head step_scope (Steps.trans harr (.one step_inScope))⟩
  | exit id => exact ⟨.exit id, a₁, w₁, hq, fun k' hk => .head step_scope (harr k' (by simp [exitTo, hk]))⟩
  | goto l' =>
    obtain ⟨n, hJ'⟩ := hq
    obtain ⟨rest', hf', e₂, a₂, w₂, hq₂, harr₂⟩ := key n l' a₁ w₁ hJ'
    have hg : gotoIn l' (.inScope c :: k) = some (.code rest' :: .inScope c :: k) := by simp [gotoIn, hf']
    exact ⟨e₂, a₂, w₂, hq₂, .of_steps (.head step_scope (harr _ hg)) harr₂⟩
  | ret => exact ⟨_, a₁, w₁, hq, .of_steps (.one step_scope) harr⟩
  | panic ch => exact ⟨_, a₁, w₁, hq, .of_steps (.one step_scope) harr⟩
  | outgrown => exact ⟨_, a₁, w₁, hq, .of_steps (.one step_scope) harr⟩
theorem wp_more {c : Code} {Q' : Exit → Act → World → Prop} (h : c.wp P Q a w) (hq : ∀ e a w, Q e a w → Q' e a w) : c.wp P Q' a w := by
  intro b k cs
  obtain ⟨e, a₁, w₁, h1, h2⟩ := h b k cs
  exact ⟨e, a₁, w₁, hq _ _ _ h1, h2⟩
theorem wp_scope_at {rest : Code} (l0 n0 : Nat) (J : Nat → Nat → Act → World → Prop) (h0 : J n0 l0 a w)
    (pass0 : ∀ n a w, J n l0 a w → rest.wp P (jumpsQ (fun l' a' w' => ∃ n', n' < n ∧ J n' l' a' w') Q) a w)
    (pass : ∀ n l a w, l ≠ l0 → J n l a w → ∃ r, findLabel ((Code.label l0).seq rest) l = some r ∧ r.wp P (jumpsQ (fun l' a' w' => ∃ n', n' < n ∧ J n' l' a' w') Q) a w) : (Code.scope ((Code.label l0).seq rest)).wp P Q a w := by
  refine wp_scope_ghost J ?_ ?_
  · apply wp_seq
    apply wp_label
    refine wp_more (pass0 n0 a w h0) fun e a w hq => ?_
    cases e with
    | goto l => obtain ⟨n', _, h⟩ := hq; exact ⟨n', h⟩
    | _ => exact hq
  · intro n l a w hJ
    by_cases hl : l = l0
    · subst hl
      refine ⟨Code.seq .skip rest, by simp [findLabel], ?_⟩
      apply wp_seq
      apply wp_skip
      exact pass0 n a w hJ
    · exact pass n l a w hl hJ
end
theorem tm_list (l : List Value) (n : Nat) (h : l.length = n) : l = (List.range n).map (fun i => l.getD i undef) := by
  refine List.ext_getElem (by simp [h]) fun i h1 h2 => ?_
  rw [List.getElem_map, List.getElem_range]
  simp [List.getD_eq_getElem?_getD, List.getElem?_eq_getElem h1]
theorem tmps_of {a : Act} {n : Nat} (h : a.tmps.size = n) (hd : a.defers = []) : a = ⟨((List.range n).map (fun i => a.tmps.toList.getD i undef)).toArray, []⟩ := by
  have := tm_list a.tmps.toList n (by simpa using h)
  cases a with
  | mk tmps defers =>
    cases hd
    congr 1
    rw [← this]
end Go.Proofs.YtlpmmmmniojflaaGreatDoor
/- The machine in memory: Run. -/
set_option linter.unusedVariables false
set_option linter.unusedSimpArgs false
namespace Go.Proofs.YtlpmmmmniojflaaGreatDoor
open Go.RowKit
def stF (o : Option Nd) : Nat := match o with | none => 2 | some _ => 1
theorem insC_len (i : Ins) : (insC i).length = 6 := rfl
theorem MR.codeLen {w : World} {own : Nat → Nat} {b o cv cg st : Nat} {m : Mc} {nd : Nd} (h : MR w own b o cv cg m st nd) : ∃ q cp, w.cell? ⟨b, o, none⟩ = some (.slice q m.code.length cp) := by
  obtain ⟨v, h1, h2⟩ := h.code
  obtain ⟨q, cp, rfl⟩ := h2.sl.len
  exact ⟨q, cp, h1⟩
theorem MR.gdLen {w : World} {own : Nat → Nat} {b o cv cg st : Nat} {m : Mc} {nd : Nd} (h : MR w own b o cv cg m st nd) : ∃ q cp, w.cell? ⟨b, o + 6, none⟩ = some (.slice q m.gd.length cp) := by
  obtain ⟨v, h1, h2⟩ := h.gds
  obtain ⟨q, cp, rfl⟩ := h2.sl.len
  exact ⟨q, cp, h1⟩
theorem MR.ins {w : World} {own : Nat → Nat} {b o cv cg st : Nat} {m : Mc} {nd : Nd} (h : MR w own b o cv cg m st nd) {j : Nat} {i : Ins} (hi : m.code[j]? = some i) : ∃ g p cp, w.cell? ⟨b, o, none⟩ = some (.slice (some ⟨g, p, none⟩) m.code.length cp) ∧ m.code.length ≤ cp ∧
    w.cell? ⟨g, p + j * 6, none⟩ = some (.int .i64 i.op) ∧ w.cell? ⟨g, p + j * 6 + 1, none⟩ = some (.int .i64 i.v.k) ∧ w.cell? ⟨g, p + j * 6 + 2, none⟩ = some (.int .i64 i.v.n) ∧ w.cell? ⟨g, p + j * 6 + 3, none⟩ = some (.string i.v.s) ∧ w.cell? ⟨g, p + j * 6 + 4, none⟩ = some (.int .i64 i.cell) ∧ w.cell? ⟨g, p + j * 6 + 5, none⟩ = some (.int .i64 i.to) := by
  obtain ⟨v, h1, h2⟩ := h.code
  have hl := (List.getElem?_eq_some_iff.1 hi).1
  obtain ⟨g, p, cp, rfl, hc⟩ := h2.sl.at (by omega)
  have f := fun t u hu => h2.sl.cell _ _ (flat3_get insC_len m.code j i t u hi hu)
  refine ⟨g, p, cp, h1, hc, f 0 _ rfl, ?_, ?_, ?_, ?_, ?_⟩
  · rw [Nat.add_assoc]; exact f 1 _ rfl
  · rw [Nat.add_assoc]; exact f 2 _ rfl
  · rw [Nat.add_assoc]; exact f 3 _ rfl
  · rw [Nat.add_assoc]; exact f 4 _ rfl
  · rw [Nat.add_assoc]; exact f 5 _ rfl
theorem goM_cases {f : Nat} {m mf : Mc} {out : Option Nd} (h : goM f m = some (mf, out)) : ∃ f', f = f' + 1 ∧ (headM m = some (.inr (mf, out)) ∨ ∃ m', headM m = some (.inl m') ∧ goM f' m' = some (mf, out)) := by
  cases f with
  | zero => cases h
  | succ f =>
    refine ⟨f, rfl, ?_⟩
    rw [goM] at h
    cases hh : headM m with
    | none => rw [hh] at h; cases h
    | some x =>
      rw [hh] at h
      cases x with
      | inl m' => exact .inr ⟨m', rfl, h⟩
      | inr x => cases h; exact .inl rfl
theorem goM_end {f : Nat} {m mf : Mc} {out : Option Nd} (h : goM f m = some (mf, out)) (hf : failB m = false) (he : m.at' = m.code.length) : mf = m ∧ out = none := by
  obtain ⟨f', _, h⟩ := goM_cases h
  have e : headM m = some (.inr (m, none)) := by
    unfold headM
    rw [if_neg (by rw [hf]; decide), List.getElem?_eq_none (by omega)]
    simp only
    rw [if_pos he]
  rw [e] at h
  rcases h with h | ⟨m', h, _⟩
  · cases h; exact ⟨rfl, rfl⟩
  · cases h
theorem goM_step {f : Nat} {m mf : Mc} {out : Option Nd} {i : Ins} (h : goM f m = some (mf, out)) (hf : failB m = false) (hi : m.code[m.at']? = some i) : ∃ f', f = f' + 1 ∧ ∃ m' o, stepM m i = some (m', o) ∧ ((o = none ∧ goM f' m' = some (mf, out)) ∨ (∃ nd, o = some nd ∧ mf = m' ∧ out = some nd)) := by
  obtain ⟨f', hf', h⟩ := goM_cases h
  refine ⟨f', hf', ?_⟩
  have e : headM m = match stepM m i with | none => none | some (m', none) => some (.inl m') | some (m', some nd) => some (.inr (m', some nd)) := by
    unfold headM
    rw [if_neg (by rw [hf]; decide), hi]
    rfl
  rw [e] at h
  cases hs : stepM m i with
  | none => rw [hs] at h; rcases h with h | ⟨m', h, _⟩ <;> cases h
  | some x =>
    obtain ⟨m', o⟩ := x
    rw [hs] at h
    refine ⟨m', o, rfl, ?_⟩
    cases o with
    | none =>
      rcases h with h | ⟨m2, h, h2⟩
      · cases h
      · cases h; exact .inl ⟨rfl, h2⟩
    | some nd =>
      rcases h with h | ⟨m2, h, h2⟩
      · cases h; exact .inr ⟨nd, rfl, rfl, rfl⟩
      · cases h
theorem goM_fail {f : Nat} {m mf : Mc} {out : Option Nd} (h : goM f m = some (mf, out)) (hf : failB m = true) : ∃ f', f = f' + 1 ∧ ((m.gd = [] ∧ mf = m ∧ out = none) ∨ ∃ gl t hh, m.gd = gl ++ [(t, hh)] ∧ hh ≤ m.vals.length ∧ 0 < m.vals.length ∧ goM f' ⟨m.code, t, m.vals.take hh ++ [vB true], gl⟩ = some (mf, out)) := by
  obtain ⟨f', hf', h⟩ := goM_cases h
  refine ⟨f', hf', ?_⟩
  have h0 : 0 < m.vals.length := by
    unfold failB at hf
    cases hv : m.vals with
    | nil => rw [hv] at hf; cases hf
    | cons a l => simp
  unfold headM at h
  rw [if_pos hf] at h
  cases hg : m.gd.getLast? with
  | none =>
    rw [hg] at h
    rcases h with h | ⟨m2, h, h2⟩
    · cases h; exact .inl ⟨List.getLast?_eq_none_iff.1 hg, rfl, rfl⟩
    · cases h
  | some g =>
    rw [hg] at h
    dsimp only at h
    by_cases hl : g.2 ≤ m.vals.length
    · rw [if_pos hl] at h
      rcases h with h | ⟨m2, h, h2⟩
      · cases h
      · cases h
        exact .inr ⟨m.gd.dropLast, g.1, g.2, last_split hg, hl, h0, h2⟩
    · rw [if_neg hl] at h
      rcases h with h | ⟨m2, h, h2⟩ <;> cases h
theorem setSt {w : World} {own : Nat → Nat} {b o cv cg st : Nat} {m : Mc} {nd : Nd} (h : MR w own b o cv cg m st nd) (hC : Cols cv cg) (q : Int) (s : Nat) (hq : q = s) : MStep w own b o cv cg (w.setCell ⟨b, o + 2, none⟩ (.int .i64 q)) m s nd := by
  subst hq
  have hB := h.blk
  exact MStep.state (p := m.at') h hC ((Chg.refl _ _ _ _ _ _).put (by omega) (by omega) _) (by rw [hB.coff (by omega)]; exact h.at') (hB.cset (by omega) _) (by rw [hB.coff (by omega)]; exact h.nc) (by rw [hB.coff (by omega)]; exact h.na)
structure RunJ (w : World) (own : Nat → Nat) (b o cv cg : Nat) (mf : Mc) (out : Option Nd) (nd : Nd) (n l : Nat) (a : Act) (w' : World) : Prop where
  sz : a.tmps.size = 50
  p : a.tmps.toList.getD 0 undef = .pointer (some ⟨b, o, none⟩)
  df : a.defers = []
  ex : ∃ own' m st nd', (∀ k, k < w.heap.size → own' k = own k) ∧ Chg own (mC cv cg) b o (o + 7) w w' ∧ MR w' own' b o cv cg m st nd' ∧
    ((l = 0 ∧ st = 0 ∧ nd' = nd ∧ MI m ∧ ∃ f, n = 2 * f + 1 ∧ goM f m = some (mf, out)) ∨ (l = 1 ∧ st = 0 ∧ nd' = nd ∧ MI m ∧ failB m = true ∧ ∃ f, n = 2 * f ∧ goM f m = some (mf, out)) ∨
      (l = 0 ∧ n = 0 ∧ st = stF out ∧ m = mf ∧ nd' = out.getD nd ∧ MI m ∧ (out ≠ none → m.vals.length < m.at')))
set_option maxRecDepth 100000 in
set_option maxHeartbeats 4000000 in
theorem run_w (w : World) (own : Nat → Nat) (b o cv cg : Nat) (m : Mc) (nd : Nd) (f : Nat) (mf : Mc) (out : Option Nd) (hC : Hid (Cols cv cg)) (hM : Hid (MR w own b o cv cg m 0 nd)) (hI : Hid (MI m)) (hg : Hid (goM f m = some (mf, out))) :
    Calls Tryz.prog 175 #[.pointer (some ⟨b, o, none⟩)] w fun e w' => e = .returned (.int .i64 (stF out)) ∧ Hid (MStep w own b o cv cg w' mf (stF out) (out.getD nd) ∧ MI mf ∧ (out ≠ none → mf.vals.length < mf.at')) := by
  go_enter Tryz.func175, Tryz.ntmps175
  go_wp2_with fail
  have open' : ∀ n l a w1, RunJ w own b o cv cg mf out nd n l a w1 → ∃ u : Nat → Value, u 0 = .pointer (some ⟨b, o, none⟩) ∧ a = ⟨#[u 0, u 1, u 2, u 3, u 4, u 5, u 6, u 7, u 8, u 9, u 10, u 11, u 12, u 13, u 14, u 15, u 16, u 17, u 18, u 19, u 20, u 21, u 22, u 23, u 24, u 25, u 26, u 27, u 28, u 29, u 30, u 31, u 32, u 33, u 34, u 35, u 36, u 37, u 38, u 39, u 40, u 41, u 42, u 43, u 44, u 45, u 46, u 47, u 48, u 49], []⟩ := by
    intro n l a w1 h
    refine ⟨fun i => a.tmps.toList.getD i undef, h.p, ?_⟩
    have := tmps_of h.sz h.df
    exact this
  refine wp_scope_at 0 (2 * f + 1) (RunJ w own b o cv cg mf out nd) ⟨rfl, rfl, rfl, own, m, 0, nd, fun _ _ => rfl, Chg.refl _ _ _ _ _ _, hM.out, .inl ⟨rfl, rfl, rfl, hI.out, f, rfl, hg.out⟩⟩ ?_ ?_
  · intro n a w1 hJ
    obtain ⟨u, hu0, rfl⟩ := open' _ _ _ _ hJ
    obtain ⟨_, _, _, own1, m1, st1, nd1, e1, g1, M1, hcase⟩ := hJ
    rw [hu0]
    have HE : Hid _ := e1
    have HG : Hid _ := g1
    have HM : Hid _ := M1
    clear e1 g1 hu0
    have hst := M1.st
    rcases hcase with ⟨_, rfl, rfl, hI1, f1, rfl, hg1⟩ | ⟨hh, _⟩ | ⟨_, rfl, rfl, rfl, rfl, hI1, hlt⟩
    · go_wp2_with fail
      refine (failed_w _ own1 b o cv cg m1 0 nd1 HM).mono ?_
      rintro e w2 ⟨rfl, hb2⟩
      have M2 : MR w2 own1 b o cv cg m1 0 nd1 := M1.below hb2 (fun _ _ => rfl)
      have HM2 : Hid _ := M2
      have HG2 : Hid (Chg own (mC cv cg) b o (o + 7) w w2) := HG.out.trans (own' := own1) (Chg.below hb2 M1.blk.lt) HE.out
      have HI1 : Hid _ := hI1
      have HGO : Hid _ := hg1
      clear M1 hb2 HM HG hI1 hg1 hst
      by_cases hfa : failB m1 = true
      · have HFA : Hid _ := hfa
        clear M2
        go_wp2_with fail
        go_step3
        exact ⟨2 * f1, by omega, rfl, rfl, rfl, own1, m1, 0, nd1, HE.out, HG2.out, HM2.out, .inr (.inl ⟨rfl, rfl, rfl, HI1.out, HFA.out, f1, rfl, HGO.out⟩)⟩
      · have hfa' : failB m1 = false := by simpa using hfa
        have HFA : Hid _ := hfa'
        obtain ⟨q, cp, hcode⟩ := M2.codeLen
        have hat := M2.at'
        by_cases he : m1.at' = m1.code.length
        · have he' : ((m1.at' : Int) == (m1.code.length : Int)) = true := by simp; omega
          obtain ⟨rfl, rfl⟩ := goM_end HGO.out hfa' he
          have hst2 := M2.st
          have hf2 := M2.blk.frozen (o + 2)
          clear M2 he hfa
          go_wp2_with fail
          go_region
          all_goals
            go_wp2_with fail
            go_step3
            obtain ⟨own2, e2, M3, g3⟩ := ((setSt HM2.out hC.out 2 2 rfl).then (Below.refl _ _).drew)
            exact ⟨0, by omega, rfl, rfl, rfl, own2, mf, 2, nd1, fun k hk => (e2 k (Nat.lt_of_lt_of_le hk HG2.out.size)).trans (HE.out k hk), HG2.out.trans g3 HE.out, M3, .inr (.inr ⟨rfl, rfl, rfl, rfl, rfl, HI1.out, fun h => absurd rfl h⟩)⟩
        · have he' : ((m1.at' : Int) == (m1.code.length : Int)) = false := by simp; omega
          have hlt : m1.at' < m1.code.length := by have := HI1.out.at'; omega
          obtain ⟨i, hi⟩ : ∃ i, m1.code[m1.at']? = some i := ⟨_, List.getElem?_eq_getElem hlt⟩
          obtain ⟨f2, rfl, m2, o2, hs2, hcase2⟩ := goM_step HGO.out hfa' hi
          have HIN : Hid _ := hi
          have HS2 : Hid _ := hs2
          have HC2 : Hid _ := hcase2
          obtain ⟨g, p, cp', hcode', hle, c0, c1, c2, c3, c4, c5⟩ := M2.ins hi
          rw [hcode] at hcode'
          cases hcode'
          have hlti : (m1.at' : Int) < (m1.code.length : Int) := by omega
          have hge : 0 ≤ (m1.at' : Int) := by omega
          clear M2 he hfa hi hs2 hcase2 hle
          go_wp2_with fail
          go_region
          all_goals
            go_wp2_with fail
            go_region_with ((go_at_call 201; refine (step_all _ own1 b o cv cg m1 nd1 i m2 o2 hC.out (HM2.out.below ((Below.refl _ _).drew.drew) (fun _ _ => rfl)) HI1.out HIN.out HS2.out).mono ?_; rintro e w3 ⟨rfl, h3⟩))
          all_goals
            go_wp2_with fail
            go_step3
            obtain ⟨own3, e3, M3, g3⟩ := h3.out
            have G3 : Chg own (mC cv cg) b o (o + 7) w w3 := HG2.out.drew.drew.trans g3 HE.out
            have E3 : ∀ k, k < w.heap.size → own3 k = own k := fun k hk => (e3 k (Nat.lt_of_lt_of_le hk HG2.out.size)).trans (HE.out k hk)
            obtain ⟨I2, _, l2, _⟩ := HI1.out.step HIN.out HS2.out
            rcases HC2.out with ⟨rfl, hgo⟩ | ⟨nd2, rfl, rfl, rfl⟩
            · exact ⟨2 * f2 + 1, by omega, rfl, rfl, rfl, own3, m2, 0, nd1, E3, G3, M3, .inl ⟨rfl, rfl, rfl, I2, f2, rfl, hgo⟩⟩
            · exact ⟨0, by omega, rfl, rfl, rfl, own3, _, 1, nd2, E3, G3, M3, .inr (.inr ⟨rfl, rfl, rfl, rfl, rfl, I2, l2⟩)⟩
    · cases hh
    · have hne : ((stF out : Int) != 0) = true := by cases out <;> rfl
      have HI1 : Hid _ := hI1
      have HLT : Hid _ := hlt
      clear M1 hI1 hlt
      go_wp2_with fail
      rw [jumps_ret]
      go_ret
      exact ⟨rfl, ⟨own1, HE.out, HM.out, HG.out⟩, HI1.out, HLT.out⟩
  · intro n l a w1 hl hJ
    obtain ⟨u, hu0, rfl⟩ := open' _ _ _ _ hJ
    obtain ⟨_, _, _, own1, m1, st1, nd1, e1, g1, M1, hcase⟩ := hJ
    rw [hu0]
    have HE : Hid _ := e1
    have HG : Hid _ := g1
    have HM : Hid _ := M1
    clear e1 g1 hu0
    rcases hcase with ⟨hh, _⟩ | ⟨rfl, rfl, rfl, hI1, hfa, f1, rfl, hg1⟩ | ⟨hh, _⟩
    · exact absurd hh hl
    · refine ⟨_, rfl, ?_⟩
      obtain ⟨q, cp, hgd⟩ := M1.gdLen
      obtain ⟨f2, rfl, ⟨g0, rfl, rfl⟩ | ⟨gl, t, hh, g0, hle, h0, hgo⟩⟩ := goM_fail hg1 hfa
      · rw [g0] at hgd
        have hst := M1.st
        have hf2 := M1.blk.frozen (o + 2)
        have HI1 : Hid _ := hI1
        clear M1 hI1 hg1 hfa hl g0
        go_wp2_with fail
        go_step3
        obtain ⟨own2, e2, M3, g3⟩ := setSt HM.out hC.out 2 2 rfl
        exact ⟨0, by omega, rfl, rfl, rfl, own2, mf, 2, nd1, fun k hk => (e2 k (Nat.lt_of_lt_of_le hk HG.out.size)).trans (HE.out k hk), HG.out.trans g3 HE.out, M3, .inr (.inr ⟨rfl, rfl, rfl, rfl, rfl, HI1.out, fun h => absurd rfl h⟩)⟩
      · have hn : m1.vals.length ≤ 100000 := by have := hI1.len; have := hI1.at'; have := hI1.small; omega
        have hne : ((m1.gd.length : Int) == 0) = false := by rw [g0]; simp; omega
        have H0 : Hid (0 < m1.vals.length) := h0
        have HLE : Hid (hh ≤ m1.vals.length) := hle
        have HGD : Hid _ := g0
        have HN : Hid _ := hn
        have HGO : Hid _ := hgo
        have HI1 : Hid _ := hI1
        clear M1 hI1 hg1 hfa hl g0 hle h0 hgo hn
        go_wp2_with fail
        refine (rescue_w _ own1 b o cv cg m1 0 nd1 gl t hh hC HM HGD HLE.out H0.out HN).mono ?_
        rintro e w3 ⟨rfl, h3⟩
        go_wp2_with fail
        go_step3
        obtain ⟨own3, e3, M3, g3⟩ := h3.out
        have I2 := HI1.out.rescue (g := (t, hh)) (by rw [HGD.out]; simp) HLE.out
        have hdl : m1.gd.dropLast = gl := by rw [HGD.out]; simp
        rw [hdl] at I2
        exact ⟨2 * f2 + 1, by omega, rfl, rfl, rfl, own3, _, 0, nd1, fun k hk => (e3 k (Nat.lt_of_lt_of_le hk HG.out.size)).trans (HE.out k hk), HG.out.trans g3 HE.out, M3, .inl ⟨rfl, rfl, rfl, I2, f2, rfl, HGO.out⟩⟩
    · exact absurd hh hl
end Go.Proofs.YtlpmmmmniojflaaGreatDoor
/- The machine in memory: See, Need, Worth, Give. -/
set_option linter.unusedVariables false
set_option linter.unusedSimpArgs false
namespace Go.Proofs.YtlpmmmmniojflaaGreatDoor
open Go.RowKit
set_option maxHeartbeats 2000000 in
theorem see_w (nd : Nd) (v : V) : Gives 178 #[.agg #[.int .i64 nd.c, .bool nd.a], vV v] (vV (see nd v)) := by
  intro w
  unfold vV
  by_cases h0 : v.k = 0
  · have h0' : (v.k == 0) = true := by simpa using h0
    cases ha : nd.a with
    | true =>
      have HF : Hid (see nd v = v) := by unfold Hid see; rw [if_neg (by rw [ha]; simp)]
      go_enter Tryz.func178, Tryz.ntmps178
      go_wp2
      go_returns
      rw [HF.out]
      exact ⟨by first | rfl | rw [h0], by repeat (first | exact Below.refl _ _ | refine bal ?_ _)⟩
    | false =>
      have HF : Hid (see nd v = vI 0) := by unfold Hid see; rw [if_pos ⟨h0, ha⟩]
      go_enter Tryz.func178, Tryz.ntmps178
      go_wp2
      go_returns
      rw [HF.out]
      exact ⟨rfl, by repeat (first | exact Below.refl _ _ | refine bal ?_ _)⟩
  · have h0' : (v.k == 0) = false := by simpa using h0
    have HF : Hid (see nd v = v) := by unfold Hid see; rw [if_neg (fun h => h0 h.1)]
    go_enter Tryz.func178, Tryz.ntmps178
    go_wp2
    go_returns
    rw [HF.out]
    exact ⟨rfl, by repeat (first | exact Below.refl _ _ | refine bal ?_ _)⟩
set_option maxRecDepth 100000 in
set_option maxHeartbeats 2000000 in
theorem need_w (w : World) (own : Nat → Nat) (b o cv cg : Nat) (m : Mc) (st : Nat) (nd : Nd) (hM : Hid (MR w own b o cv cg m st nd)) :
    Calls Tryz.prog 176 #[.pointer (some ⟨b, o, none⟩)] w fun e w' => e = .returned (.agg #[.int .i64 nd.c, .bool nd.a]) ∧ Below w.heap.size w w' := by
  have h1 := al hM.out.nc
  have h2 := al hM.out.na
  go_enter Tryz.func176, Tryz.ntmps176
  go_wp2_with fail
  go_returns
  exact ⟨rfl, bl1 _ _⟩
set_option maxRecDepth 100000 in
set_option maxHeartbeats 2000000 in
theorem worth_w (w : World) (own : Nat → Nat) (b o cv cg : Nat) (m : Mc) (st : Nat) (nd : Nd) (l : List V) (y : V) (hM : Hid (MR w own b o cv cg m st nd)) (hl : Hid (m.vals = l ++ [y])) :
    Calls Tryz.prog 180 #[.pointer (some ⟨b, o, none⟩)] w fun e w' => e = .returned (vV y) ∧ Below w.heap.size w w' := by
  go_enter Tryz.func180, Tryz.ntmps180
  go_wp2_with fail
  have hM1 : MR (w.alloc (Obj.cells #[Value.int IntKind.i64 0, Value.int IntKind.i64 0, Value.string ⟨#[]⟩] 52)) own b o cv cg m st nd := hM.out.below (bl1 _ _) (fun _ _ => rfl)
  refine (top_w _ own b o cv l y (by have := hM1.vals; rw [hl.out] at this; exact this)).mono ?_
  rintro e w1 ⟨rfl, hb1⟩
  have HR : Hid (w1.heap[w.heap.size]? = some (.cells #[.int .i64 0, .int .i64 0, .string ⟨#[]⟩] 52 (0, 0))) := by
    unfold Hid; rw [hb1.block _ (by simp)]; exact rnew w _ _
  obtain ⟨z0, z1, z2, z3, z4, z5⟩ := box3 rfl HR.out
  have HB : Hid (Below w.heap.size w w1) := (bl1 w _).trans (hb1.mono (by simp))
  clear hb1 hM1
  unfold vV
  go_wp2_with fail
  refine bodyPost_ret (results_cell1 rfl _ _ _ ⟨w.heap.size, 0, none⟩ _ _ rfl (load52 (rset (rset (rset HR.out))) rfl)) rfl ?_
  exact ⟨rfl, by repeat (first | exact HB.out | refine Below.setCell ?_ (by dsimp only; omega) _)⟩
set_option maxRecDepth 100000 in
set_option maxHeartbeats 2000000 in
theorem give_w (w : World) (own : Nat → Nat) (b o cv cg : Nat) (m : Mc) (st : Nat) (nd : Nd) (v : V) (hC : Hid (Cols cv cg)) (hM : Hid (MR w own b o cv cg m st nd)) (hn : Hid (m.vals.length ≤ 100000)) :
    Calls Tryz.prog 179 #[.pointer (some ⟨b, o, none⟩), vV v] w fun e w' => e = .returned (.tuple #[]) ∧ Hid (MStep w own b o cv cg w' (m.push (see nd v)) 0 nd) := by
  have HS : Hid (Gives 178 #[.agg #[.int .i64 nd.c, .bool nd.a], vV v] (vV (see nd v))) := see_w nd v
  obtain ⟨r, hr⟩ : ∃ r, see nd v = r := ⟨_, rfl⟩
  rw [hr] at HS ⊢
  clear hr
  have h1 := al hM.out.nc
  have h2 := al hM.out.na
  have h1' := hM.out.nc
  have h2' := hM.out.na
  have hb := hM.out.blk.lt
  have HM1 : Hid (∀ z, MR (w.alloc z).drew own b o cv cg m st nd) := fun z => hM.out.below (bl1 _ _).drew (fun _ _ => rfl)
  have HB1 : Hid (∀ z, Below w.heap.size w (w.alloc z).drew) := fun z => (bl1 _ _).drew
  unfold vV at HS ⊢
  go_enter Tryz.func179, Tryz.ntmps179
  go_wp2_with fail
  go_region_with (first
    | (go_at_call 178; refine (HS.out _).mono ?_; rintro e w1 ⟨rfl, hb1⟩; have HM2 : Hid (MR w1 own b o cv cg m st nd) := (HM1.out _).below hb1 (fun _ _ => rfl); have HB2 : Hid (Below w.heap.size w w1) := (HB1.out _).trans (hb1.mono (HB1.out _).size); clear hb1)
    | (go_at_call 205; refine (mput _ own b o cv cg m st nd r hC HM2 hn.out).mono ?_; rintro e w2 ⟨rfl, h2⟩; have H2 : Hid (MStep w own b o cv cg w2 (m.push r) st nd) := MStep.below hb HB2.out h2.out; clear h2))
  all_goals
    obtain ⟨own2, e2, M2, g2⟩ := H2.out
    have hst := M2.st
    have hf2 := M2.blk.frozen (o + 2)
    have HM3 : Hid _ := M2
    have HE3 : Hid _ := e2
    have HG3 : Hid _ := g2
    clear M2 e2 g2 H2 h1 h2 h1' h2'
    go_wp2_with fail
    refine bodyPost_end (results_none rfl _ _ _) rfl ⟨rfl, ?_⟩
    exact MStep.comp HE3.out HG3.out (setSt HM3.out hC.out 0 0 rfl)
end Go.Proofs.YtlpmmmmniojflaaGreatDoor
