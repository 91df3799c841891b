/- The machine in memory: its step guard. -/
import Derived.Test.YtlpmmmmniojflaaGreatDoorQ17
set_option linter.unusedVariables false
set_option linter.unusedSimpArgs false
namespace Go.Proofs.YtlpmmmmniojflaaGreatDoor
open Go.RowKit
set_option maxRecDepth 100000 in
set_option maxHeartbeats 4000000 in
theorem step_guard (w : World) (own : Nat → Nat) (b o cv cg : Nat) (m : Mc) (st : Nat) (nd : Nd) (v : V) (c t : Nat) (hC : Hid (Cols cv cg)) (hM : Hid (MR w own b o cv cg m st nd)) (hg : Hid (m.gd.length ≤ 100000)) (hp : m.at' ≤ 100000) :
    Calls Tryz.prog 201 #[.pointer (some ⟨b, o, none⟩), insV 15 v c t] w fun e w' => e = .returned (.tuple #[]) ∧ Hid (MStep w own b o cv cg w' { m with at' := m.at' + 1, gd := m.gd ++ [(t, m.vals.length)] } st nd) := by
  have hat := al hM.out.at'
  have hfz := afz (hM.out.blk.frozen (o + 1)) hM.out.blk.lt
  have hb := hM.out.blk.lt
  have n1 : b ≠ w.heap.size := by omega
  have n2 : w.heap.size ≠ b := by omega
  have hw1 : wrap64 ((m.at' : Int) + 1) = ((m.at' + 1 : Nat) : Int) := by unfold wrap64; omega
  have hw2 : IntKind.i64.wrap ((m.at' : Int) + 1) = ((m.at' + 1 : Nat) : Int) := by rw [IntKind.wrap_i64]; omega
  have HI' : Hid _ := fun z => mInc hM.out ((m.at' : Int) + 1) (m.at' + 1) (by omega) z
  clear hp
  unfold insV
  go_enter Tryz.func201, Tryz.ntmps201
  go_wp2_with fail
  obtain ⟨M1, G1, B1⟩ := HI'.out (Obj.cells #[Value.int IntKind.i64 15, Value.int IntKind.i64 v.k, Value.int IntKind.i64 v.n, Value.string v.s, Value.int IntKind.i64 c, Value.int IntKind.i64 t] 303)
  clear HI' hat hfz hw1 hw2
  generalize ((w.setCell ⟨b, o + 1, none⟩ (.int .i64 ((m.at' : Int) + 1))).alloc (Obj.cells #[Value.int IntKind.i64 15, Value.int IntKind.i64 v.k, Value.int IntKind.i64 v.n, Value.string v.s, Value.int IntKind.i64 c, Value.int IntKind.i64 t] 303)) = W1 at *
  obtain ⟨i0, hi, hz0, hz1, hz2⟩ := info_parts Tryz.info315
  have hb1 : b < W1.heap.size := M1.blk.lt
  have c5 := boxc B1 5 _ rfl
  obtain ⟨gv, hgv, hgs⟩ := M1.gds
  obtain ⟨vv, hvv, hvs⟩ := M1.vals
  obtain ⟨q0, cp0, rfl⟩ := hvs.sl.len
  have HS : Hid _ := hgs
  have HM1 : Hid _ := M1
  have HG1 : Hid _ := G1
  have m1 : b ≠ W1.heap.size := by omega
  have m2 : W1.heap.size ≠ b := by omega
  have hf6 := M1.blk.frozen (o + 6)
  have hne : Hid (some b ≠ gv.ownBlock) := by
    unfold Hid; intro e
    exact (hgs.col b e.symm).2 rfl
  have hgv1 := fun z => al hgv z
  have hvv1 := fun z => al hvv z
  have hf61 := fun z => afz hf6 hb1 z
  clear M1 G1 B1 hgs hvs
  go_region_law ((refine step_append_sl (by rfl) _ _ _ (by rfl) 315 i0 _ 2 16 Tryz.underlying180 hi hz0 hz1 hz2 rfl gv m.gd.length (m.gd.flatMap gC) (by rfl) (by first | exact (HS.out.sl.al _).drew | exact (HS.out.sl.drew.al _) | exact HS.out.sl.al _) ⟨W1.heap.size, 0, none⟩ 1 1 [.int .i64 t, .int .i64 m.vals.length] (by rfl) (by decide) (by rfl) (World.news_of_block (cs := #[.int .i64 t, .int .i64 m.vals.length]) (t := 315) (fr := (0, 0)) (by exact rnew W1 _ _)) (by simp [Value.oneCell']) (by have := hg.out; unfold maxLen; omega) (by have := hg.out; omega) ?_; intro v1 w1 hsl hgrow hob; obtain ⟨q1, cp1, hq1⟩ := Slc.len hsl; subst hq1; have c1 := grown_cell hgrow (q := b) (j := o + 6) (v := gv) (by first | exact hgv1 _ | simp [hgv1]) hne.out; have f1 := grown_frozen hgrow (q := b) (j := o + 6) (v := gv) (by first | exact hgv1 _ | simp [hgv1]) (by first | exact hf61 _ | simp [hf61]) hne.out))
  all_goals
    change bodyPost Tryz.prog Tryz.f201 (fun e w' => e = Ending.returned (Value.tuple #[]) ∧ Hid (MStep w own b o cv cg w' { m with at' := m.at' + 1, gd := m.gd ++ [(t, m.vals.length)] } st nd)) Exit.normal _ _
    refine bodyPost_end (results_none rfl _ _ _) rfl ⟨rfl, ?_⟩
    exact MStep.comp ext_old HG1.out (guard_close HM1.out hC.out HS.out ((bl1 _ _).drew) hgrow hob hsl)
end Go.Proofs.YtlpmmmmniojflaaGreatDoor
