/- The machine in memory: its steps that take two values. -/
import Derived.Test.YtlpmmmmniojflaaGreatDoorQ17
import Derived.Deep.RegionWith
set_option linter.unusedVariables false
set_option linter.unusedSimpArgs false
namespace Go.Proofs.YtlpmmmmniojflaaGreatDoor
open Go.RowKit
theorem MStep.box {w w' : World} {own : Nat → Nat} {b o cv cg st : Nat} {m : Mc} {nd : Nd} (h : MStep w own b o cv cg w' m st nd) (hC : Cols cv cg) {q : Nat} (hq : q < w.heap.size) (hb : q ≠ b) (h0 : own q = 0) : w'.heap[q]? = w.heap[q]? := by
  obtain ⟨o1, e1, m1, c1⟩ := h
  exact c1.blk q hq hb (by rw [h0]; rintro (h | h); exact hC.v h.symm; exact hC.g h.symm)
set_option maxRecDepth 100000 in
set_option maxHeartbeats 4000000 in
theorem step_two (w : World) (own : Nat → Nat) (b o cv cg : Nat) (m : Mc) (st : Nat) (nd : Nd) (v : V) (c t : Nat) (hC : Hid (Cols cv cg)) (hM : Hid (MR w own b o cv cg m st nd)) (op : Nat) (h5 : 5 ≤ op) (h11 : op ≤ 11) (l : List V) (x y : V) (hl : Hid (m.vals = l ++ [x] ++ [y])) (hn : Hid (m.vals.length ≤ 100000)) (hx : Hid (OKV x)) (hy : Hid (OKV y)) (hp : m.at' ≤ 100000) :
    Calls Tryz.prog 201 #[.pointer (some ⟨b, o, none⟩), insV op v c t] w fun e w' => e = .returned (.tuple #[]) ∧ Hid (MStep w own b o cv cg w' { m with at' := m.at' + 1, vals := l ++ [comb op x y] } st nd) := by
  have HW : Hid (Gives 227 #[.int .i64 op, vV x, vV y] (vV (comb op x y))) := comb_w op h5 h11 x y hx.out hy.out
  obtain ⟨r, hr⟩ : ∃ r, comb op x y = r := ⟨_, rfl⟩
  rw [hr] at HW ⊢
  clear hr
  have hat := al hM.out.at'
  have hfz := afz (hM.out.blk.frozen (o + 1)) hM.out.blk.lt
  have hb := hM.out.blk.lt
  have n1 : b ≠ w.heap.size := by omega
  have n2 : w.heap.size ≠ b := by omega
  have hw1 : wrap64 ((m.at' : Int) + 1) = ((m.at' + 1 : Nat) : Int) := by unfold wrap64; omega
  have hw2 : IntKind.i64.wrap ((m.at' : Int) + 1) = ((m.at' + 1 : Nat) : Int) := by rw [IntKind.wrap_i64]; omega
  have HI' : Hid _ := fun z => mInc hM.out ((m.at' : Int) + 1) (m.at' + 1) (by omega) z
  have hln : Hid (l.length ≤ 100000) := by have := hn.out; rw [hl.out] at this; simp at this; unfold Hid; omega
  have k0 : ((op : Int) == 0) = false := by simp; omega
  have k1 : ((op : Int) == 1) = false := by simp; omega
  have k2 : ((op : Int) == 2) = false := by simp; omega
  have k3 : ((op : Int) == 3) = false := by simp; omega
  have k4 : ((op : Int) == 4) = false := by simp; omega
  have k12 : ((op : Int) == 12) = false := by simp; omega
  have k13 : ((op : Int) == 13) = false := by simp; omega
  have k14 : ((op : Int) == 14) = false := by simp; omega
  have k15 : ((op : Int) == 15) = false := by simp; omega
  have k16 : ((op : Int) == 16) = false := by simp; omega
  clear hp h5 h11
  unfold insV
  go_enter Tryz.func201, Tryz.ntmps201
  go_wp2_with fail
  obtain ⟨M1, G1, B1⟩ := HI'.out (Obj.cells #[Value.int IntKind.i64 op, Value.int IntKind.i64 v.k, Value.int IntKind.i64 v.n, Value.string v.s, Value.int IntKind.i64 c, Value.int IntKind.i64 t] 303)
  clear HI' hat hfz hw1 hw2 k0 k1 k2 k3 k4 k12 k13 k14 k15 k16
  generalize ((w.setCell ⟨b, o + 1, none⟩ (.int .i64 ((m.at' : Int) + 1))).alloc (Obj.cells #[Value.int IntKind.i64 op, Value.int IntKind.i64 v.k, Value.int IntKind.i64 v.n, Value.string v.s, Value.int IntKind.i64 c, Value.int IntKind.i64 t] 303)) = W1 at *
  have hq1 : w.heap.size < W1.heap.size := (Array.getElem?_eq_some_iff.1 B1).1
  refine (mtake _ _ b o cv cg _ st nd (l ++ [x]) y hC M1 hl.out).mono ?_
  rintro e w2 ⟨rfl, h2⟩
  obtain ⟨own2, e2, M2, g2⟩ := h2.out
  have B2 : w2.heap[w.heap.size]? = _ := (h2.out.box hC.out hq1 n2 (ext_new (Nat.le_refl _))).trans B1
  have hq2 : w.heap.size < w2.heap.size := (Array.getElem?_eq_some_iff.1 B2).1
  have o2 : own2 w.heap.size = 0 := by rw [e2 _ hq1]; exact ext_new (Nat.le_refl _)
  have hb2 : b < w2.heap.size := M2.blk.lt
  have G2 : Chg own (mC cv cg) b o (o + 7) w w2 := G1.trans g2 ext_old
  have E2 : ∀ k, k < w.heap.size → own2 k = own k := fun k hk => (e2 k (Nat.lt_trans hk hq1)).trans (ext_old k hk)
  clear h2 M1 G1 B1 e2 g2
  have c0 := boxc B2 0 (.int .i64 op) rfl
  unfold vV
  go_wp2_with fail
  have HM3 : Hid (MR (w2.alloc (Obj.cells #[Value.int IntKind.i64 y.k, Value.int IntKind.i64 y.n, Value.string y.s] 52)).drew (ext own2 w2.heap.size) b o cv cg { m with at' := m.at' + 1, vals := l ++ [x] } st nd) := M2.below (bl1 _ _).drew ext_old
  have HG3 : Hid (Chg own (mC cv cg) b o (o + 7) w (w2.alloc (Obj.cells #[Value.int IntKind.i64 y.k, Value.int IntKind.i64 y.n, Value.string y.s] 52)).drew) := (G2.al (Nat.lt_of_lt_of_le hb (Nat.le_refl _)) _).drew
  have HE3 : Hid (∀ k, k < w.heap.size → ext own2 w2.heap.size k = own k) := fun k hk => (ext_old k (Nat.lt_trans hk hq2)).trans (E2 k hk)
  have d0 := al c0
  have z0 : ∀ W : World, W.heap[w2.heap.size]? = (w2.alloc (Obj.cells #[Value.int IntKind.i64 y.k, Value.int IntKind.i64 y.n, Value.string y.s] 52)).drew.heap[w2.heap.size]? → W.cell? ⟨w2.heap.size, 0, none⟩ = some (.int .i64 y.k) ∧ W.cell? ⟨w2.heap.size, 1, none⟩ = some (.int .i64 y.n) ∧ W.cell? ⟨w2.heap.size, 2, none⟩ = some (.string y.s) := fun W hW => by
    rw [show (w2.alloc (Obj.cells #[Value.int IntKind.i64 y.k, Value.int IntKind.i64 y.n, Value.string y.s] 52)).drew.heap[w2.heap.size]? = _ from rnew w2 _ _] at hW
    exact ⟨boxc hW 0 _ rfl, boxc hW 1 _ rfl, boxc hW 2 _ rfl⟩
  have Z0 : Hid _ := z0
  obtain ⟨x0, x1, x2⟩ := z0 _ rfl
  have HO : Hid (ext own2 w2.heap.size w.heap.size = 0) := (ext_old _ hq2).trans o2
  have HQ : Hid (w.heap.size < w2.heap.size) := hq2
  have HB2 : Hid _ := B2
  have m1 : w2.heap.size ≠ b := by omega
  clear M2 G2 E2 z0 o2 hq1 hq2 B2 hM hx hy hn
  unfold vV at HW
  go_region_with (first
    | (go_at_call 223; refine (mtake _ _ b o cv cg _ st nd l x hC HM3 rfl).mono ?_; rintro e w4 ⟨rfl, h4⟩; obtain ⟨p0, p1, p2⟩ := Z0.out w4 (h4.out.box hC.out (by simp) m1 (ext_new (Nat.le_refl _))); have pc := boxc (((h4.out.box hC.out (by have := HQ.out; simp; omega) n2 HO.out).trans (rold HB2.out _))) 0 (.int .i64 op) rfl; have H4 : Hid (MStep w own b o cv cg w4 { m with at' := m.at' + 1, vals := l } st nd) := MStep.comp HE3.out HG3.out h4.out; clear h4; unfold vV)
    | (go_at_call 227; refine (HW.out _).mono ?_; rintro e w5 ⟨rfl, hb5⟩; have H5 : Hid (MStep w own b o cv cg w5 { m with at' := m.at' + 1, vals := l } st nd) := H4.out.then hb5; clear hb5)
    | (go_at_call 205; obtain ⟨own5, e5, M5, g5⟩ := H5.out; refine (mput _ own5 b o cv cg _ st nd r hC M5 hln.out).mono ?_; rintro e w6 ⟨rfl, h6⟩; have HF : Hid (MStep w own b o cv cg w6 { m with at' := m.at' + 1, vals := l ++ [r] } st nd) := MStep.comp e5 g5 h6.out; clear h6 e5 M5 g5))
  all_goals
    change bodyPost Tryz.prog Tryz.f201 (fun e w' => e = Ending.returned (Value.tuple #[]) ∧ Hid (MStep w own b o cv cg w' { m with at' := m.at' + 1, vals := l ++ [r] } st nd)) Exit.normal _ _
    refine bodyPost_end (results_none rfl _ _ _) rfl ?_
    exact ⟨rfl, HF⟩
end Go.Proofs.YtlpmmmmniojflaaGreatDoor
