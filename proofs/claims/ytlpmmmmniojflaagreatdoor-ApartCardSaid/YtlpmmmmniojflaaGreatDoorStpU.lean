/- The machine in memory: its step unguard. -/
import Derived.Test.YtlpmmmmniojflaaGreatDoorQ17
set_option linter.unusedVariables false
set_option linter.unusedSimpArgs false
namespace Go.Proofs.YtlpmmmmniojflaaGreatDoor
open Go.RowKit
theorem gC_len (g : Nat × Nat) : (gC g).length = 2 := rfl
theorem unguard_close {W : World} {own : Nat → Nat} {b o cv cg st g p cap : Nat} {m : Mc} {nd : Nd} {l : List (Nat × Nat)} {x : Nat × Nat} (hM : MR W own b o cv cg m st nd) (hC : Cols cv cg) (hl : m.gd = l ++ [x])
    (hs : SlC W own b cg 315 2 (.slice (some ⟨g, p, none⟩) (l.length + 1) cap) (l.length + 1) ((l ++ [x]).flatMap gC)) :
    MStep W own b o cv cg (W.setCell ⟨b, o + 6, none⟩ (.slice (some ⟨g, p, none⟩) l.length cap)) { m with gd := l } st nd := by
  have hb := hM.blk.lt
  have g1 : Chg own (fun c => c = cg) b (o + 6) (o + 7) W (W.setCell ⟨b, o + 6, none⟩ (.slice (some ⟨g, p, none⟩) l.length cap)) := (Chg.refl _ _ _ _ _ _).put (by omega) (by omega) _
  have hcol := hs.col g rfl
  refine ⟨own, fun _ _ => rfl, hM.setG hC g1 (fun _ _ => rfl) ⟨_, hM.blk.cset (by omega) _, ?_, fun k hk => hs.col k hk⟩, g1.mono (fun _ h => .inr h) (by omega) (by omega)⟩
  have := hs.sl.cut (m := l.length) (by omega)
  rw [flatTake3 gC_len] at this
  exact this.kept fun k hk => Below.heap_setCell _ _ _ _ (hs.col k hk).2
set_option maxRecDepth 100000 in
set_option maxHeartbeats 4000000 in
theorem step_unguard (w : World) (own : Nat → Nat) (b o cv cg : Nat) (m : Mc) (st : Nat) (nd : Nd) (v : V) (c t : Nat) (hC : Hid (Cols cv cg)) (hM : Hid (MR w own b o cv cg m st nd)) (l : List V) (y : V) (hl : Hid (m.vals = l ++ [y])) (hn : Hid (m.vals.length ≤ 100000)) (gl : List (Nat × Nat)) (gx : Nat × Nat) (hgl : Hid (m.gd = gl ++ [gx])) (hgn : Hid (m.gd.length ≤ 100000)) (hp : m.at' ≤ 100000) :
    Calls Tryz.prog 201 #[.pointer (some ⟨b, o, none⟩), insV 16 v c t] w fun e w' => e = .returned (.tuple #[]) ∧ Hid (MStep w own b o cv cg w' { m with at' := m.at' + 1, vals := l ++ [vB false], gd := gl } st nd) := by
  have hat := al hM.out.at'
  have hfz := afz (hM.out.blk.frozen (o + 1)) hM.out.blk.lt
  have hb := hM.out.blk.lt
  have n1 : b ≠ w.heap.size := by omega
  have n2 : w.heap.size ≠ b := by omega
  have hw1 : wrap64 ((m.at' : Int) + 1) = ((m.at' + 1 : Nat) : Int) := by unfold wrap64; omega
  have hw2 : IntKind.i64.wrap ((m.at' : Int) + 1) = ((m.at' + 1 : Nat) : Int) := by rw [IntKind.wrap_i64]; omega
  have HI' : Hid _ := fun z => mInc hM.out ((m.at' : Int) + 1) (m.at' + 1) (by omega) z
  clear hp
  unfold insV
  go_enter Tryz.func201, Tryz.ntmps201
  go_wp2_with fail
  obtain ⟨M1, G1, B1⟩ := HI'.out (Obj.cells #[Value.int IntKind.i64 16, Value.int IntKind.i64 v.k, Value.int IntKind.i64 v.n, Value.string v.s, Value.int IntKind.i64 c, Value.int IntKind.i64 t] 303)
  clear HI' hat hfz hw1 hw2
  generalize ((w.setCell ⟨b, o + 1, none⟩ (.int .i64 ((m.at' : Int) + 1))).alloc (Obj.cells #[Value.int IntKind.i64 16, Value.int IntKind.i64 v.k, Value.int IntKind.i64 v.n, Value.string v.s, Value.int IntKind.i64 c, Value.int IntKind.i64 t] 303)) = W1 at *
  have hln : Hid (l.length ≤ 100000) := by have := hn.out; rw [hl.out] at this; simp at this; unfold Hid; omega
  have hb1 : b < W1.heap.size := M1.blk.lt
  obtain ⟨gv, hgv, hgs⟩ := M1.gds
  have hgs' : SlC W1 (ext own w.heap.size) b cg 315 2 gv (gl.length + 1) ((gl ++ [gx]).flatMap gC) := by
    have := hgs
    dsimp only at this
    rw [hgl.out] at this
    simpa using this
  obtain ⟨g, p, cap, rfl, hcap⟩ := hgs'.sl.at (by omega)
  have HS : Hid _ := hgs'
  have HM1 : Hid _ := M1
  have HG1 : Hid _ := G1
  have hf6 := M1.blk.frozen (o + 6)
  have hgm := hgs'.sl.max
  unfold maxLen at hgm
  have w1' : wrap64 ((gl.length : Int) + 1 - 1) = gl.length := by unfold wrap64; omega
  have w2' : IntKind.i64.wrap ((gl.length : Int) + 1 - 1) = gl.length := by rw [IntKind.wrap_i64]; omega
  have w3' : (gl.length : Int) + 1 - 1 = gl.length := by omega
  have w4' : IntKind.i64.wrap (gl.length : Int) = gl.length := by rw [IntKind.wrap_i64]; omega
  have p1 : 0 ≤ (gl.length : Int) := by omega
  have p2 : gl.length ≤ cap := by omega
  clear M1 G1 B1 hgs hgs'
  go_region
  all_goals
    have H2 : Hid (MStep w own b o cv cg (W1.setCell ⟨b, o + 6, none⟩ (Value.slice (some ⟨g, p, none⟩) gl.length cap)).drew { m with at' := m.at' + 1, gd := gl } st nd) := MStep.then (MStep.comp ext_old HG1.out (unguard_close HM1.out hC.out hgl.out HS.out)) ((Below.refl _ _).drew)
    clear HS HM1 HG1 hgv hf6 hgm w1' w2' w3' w4' p1 p2 hcap
    generalize (W1.setCell ⟨b, o + 6, none⟩ (Value.slice (some ⟨g, p, none⟩) gl.length cap)).drew = W2 at *
    go_wp2_with fail
    obtain ⟨own2, e2, M2, g2⟩ := H2.out
    have E2 : Hid _ := e2
    have G2 : Hid _ := g2
    refine (mtake _ own2 b o cv cg { m with at' := m.at' + 1, gd := gl } st nd l y hC M2 hl.out).mono ?_
    rintro e w3 ⟨rfl, h3⟩
    have H3 : Hid (MStep w own b o cv cg w3 { m with at' := m.at' + 1, vals := l, gd := gl } st nd) := MStep.comp E2.out G2.out h3.out
    clear h3 e2 M2 g2 E2 G2 H2
    go_wp2_with fail
    refine (bool_w false _).mono ?_
    rintro e w4 ⟨rfl, hb4⟩
    have H4 : Hid (MStep w own b o cv cg w4 { m with at' := m.at' + 1, vals := l, gd := gl } st nd) := H3.out.then hb4
    clear hb4 H3
    go_wp2_with fail
    obtain ⟨own4, e4, M4, g4⟩ := H4.out
    have E4 : Hid _ := e4
    have G4 : Hid _ := g4
    refine (mput _ own4 b o cv cg { m with at' := m.at' + 1, vals := l, gd := gl } st nd (vB false) hC M4 hln.out).mono ?_
    rintro e w5 ⟨rfl, h5⟩
    have HF : Hid (MStep w own b o cv cg w5 { m with at' := m.at' + 1, vals := l ++ [vB false], gd := gl } st nd) := MStep.comp E4.out G4.out h5.out
    clear h5 e4 M4 g4 E4 G4 H4
    go_wp2_with fail
    refine bodyPost_end (results_none rfl _ _ _) rfl ?_
    exact ⟨rfl, HF⟩
end Go.Proofs.YtlpmmmmniojflaaGreatDoor
