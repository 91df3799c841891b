/- Texts put together. -/
import Derived.Test.YtiocnfambeochaaGreatDoorQ11
import Derived.Test.YtiocnfambeochaaGreatDoorQ15
import Derived.Test.YtiocnfambeochaaGreatDoorCmp
/- The machine in memory, whole; what its small functions do to it. -/
set_option linter.unusedVariables false
set_option linter.unusedSimpArgs false
namespace Go.Proofs.YtiocnfambeochaaGreatDoor
open Go.RowKit

def GS (w : World) (own : Nat → Nat) (b o cg : Nat) (l : List (Nat × Nat)) : Prop := ∃ v, w.cell? ⟨b, o + 6, none⟩ = some v ∧ SlC w own b cg 315 2 v l.length (l.flatMap gC)
structure MR (w : World) (own : Nat → Nat) (b o cv cg : Nat) (m : Mc) (st : Nat) (nd : Nd) : Prop where
  blk : Blk w b o
  code : ∃ v, w.cell? ⟨b, o, none⟩ = some v ∧ SlC w own b 0 303 6 v m.code.length (m.code.flatMap insC)
  at' : w.cell? ⟨b, o + 1, none⟩ = some (.int .i64 m.at')
  st : w.cell? ⟨b, o + 2, none⟩ = some (.int .i64 st)
  nc : w.cell? ⟨b, o + 3, none⟩ = some (.int .i64 nd.c)
  na : w.cell? ⟨b, o + 4, none⟩ = some (.bool nd.a)
  vals : VS w own b o cv m.vals
  gds : GS w own b o cg m.gd
structure Cols (cv cg : Nat) : Prop where
  v : cv ≠ 0
  g : cg ≠ 0
  vg : cv ≠ cg
def mC (cv cg : Nat) (c : Nat) : Prop := c = cv ∨ c = cg
section
variable {w w' W : World} {own own' : Nat → Nat} {b o cv cg st : Nat} {m : Mc} {nd : Nd} {C : Nat → Prop} {lo hi : Nat}
theorem Blk.get (h : Blk w b o) : ∃ cs t, w.heap[b]? = some (.cells cs t (0, 0)) := by obtain ⟨cs, t, h, _⟩ := h; exact ⟨cs, t, h⟩
theorem VS.chg {l : List V} (h : VS w own b o cv l) (hB : Blk w b o) (g : Chg own C b lo hi w w') (hr : o + 5 < lo ∨ hi ≤ o + 5) (hc : ¬ C cv) (ho : ∀ k, k < w.heap.size → own' k = own k) : VS w' own' b o cv l := by
  obtain ⟨v, h1, h2⟩ := h
  obtain ⟨cs, t, hb⟩ := hB.get
  have h3 := h2.own ho
  have := h2.chg g hc
  exact ⟨v, by rw [g.cell hb (by omega)]; exact h1, this.sl, h3.col⟩
theorem GS.chg {l : List (Nat × Nat)} (h : GS w own b o cg l) (hB : Blk w b o) (g : Chg own C b lo hi w w') (hr : o + 6 < lo ∨ hi ≤ o + 6) (hc : ¬ C cg) (ho : ∀ k, k < w.heap.size → own' k = own k) : GS w' own' b o cg l := by
  obtain ⟨v, h1, h2⟩ := h
  obtain ⟨cs, t, hb⟩ := hB.get
  have h3 := h2.own ho
  have := h2.chg g hc
  exact ⟨v, by rw [g.cell hb (by omega)]; exact h1, this.sl, h3.col⟩
theorem MR.codeChg (h : MR w own b o cv cg m st nd) (g : Chg own C b lo hi w w') (hr : o < lo ∨ hi ≤ o) (hc : ¬ C 0) (ho : ∀ k, k < w.heap.size → own' k = own k) : ∃ v, w'.cell? ⟨b, o, none⟩ = some v ∧ SlC w' own' b 0 303 6 v m.code.length (m.code.flatMap insC) := by
  obtain ⟨v, h1, h2⟩ := h.code
  obtain ⟨cs, t, hb⟩ := h.blk.get
  have h3 := h2.own ho
  have := h2.chg g hc
  exact ⟨v, by rw [g.cell hb (by omega)]; exact h1, this.sl, h3.col⟩
theorem MR.far (h : MR w own b o cv cg m st nd) (g : Chg own C b lo hi w w') (hr : o + 7 ≤ lo ∨ hi ≤ o) (h0 : ¬ C 0) (hv : ¬ C cv) (hg : ¬ C cg) (ho : ∀ k, k < w.heap.size → own' k = own k) : MR w' own' b o cv cg m st nd := by
  obtain ⟨cs, t, hb⟩ := h.blk.get
  exact { blk := h.blk.chg g, code := h.codeChg g (by omega) h0 ho, at' := by rw [g.cell hb (by omega)]; exact h.at', st := by rw [g.cell hb (by omega)]; exact h.st, nc := by rw [g.cell hb (by omega)]; exact h.nc, na := by rw [g.cell hb (by omega)]; exact h.na, vals := h.vals.chg h.blk g (by omega) hv ho, gds := h.gds.chg h.blk g (by omega) hg ho }
theorem MR.below (h : MR w own b o cv cg m st nd) (hb : Below w.heap.size w w') (ho : ∀ k, k < w.heap.size → own' k = own k) : MR w' own' b o cv cg m st nd :=
  h.far (C := fun _ => False) (lo := 0) (hi := 0) (Chg.below hb h.blk.lt) (by omega) (fun h => h) (fun h => h) (fun h => h) ho
theorem MR.setV (h : MR w own b o cv cg m st nd) (hC : Cols cv cg) (g : Chg own (fun c => c = cv) b (o + 5) (o + 6) w w') (ho : ∀ k, k < w.heap.size → own' k = own k) {l : List V} (hv : VS w' own' b o cv l) : MR w' own' b o cv cg { m with vals := l } st nd := by
  obtain ⟨cs, t, hb⟩ := h.blk.get
  exact { blk := h.blk.chg g, code := h.codeChg g (by omega) (fun e => hC.v e.symm) ho, at' := by rw [g.cell hb (by omega)]; exact h.at', st := by rw [g.cell hb (by omega)]; exact h.st, nc := by rw [g.cell hb (by omega)]; exact h.nc, na := by rw [g.cell hb (by omega)]; exact h.na, vals := hv, gds := h.gds.chg h.blk g (by omega) (fun e => hC.vg e.symm) ho }
theorem MR.setG (h : MR w own b o cv cg m st nd) (hC : Cols cv cg) (g : Chg own (fun c => c = cg) b (o + 6) (o + 7) w w') (ho : ∀ k, k < w.heap.size → own' k = own k) {l : List (Nat × Nat)} (hv : GS w' own' b o cg l) : MR w' own' b o cv cg { m with gd := l } st nd := by
  obtain ⟨cs, t, hb⟩ := h.blk.get
  exact { blk := h.blk.chg g, code := h.codeChg g (by omega) (fun e => hC.g e.symm) ho, at' := by rw [g.cell hb (by omega)]; exact h.at', st := by rw [g.cell hb (by omega)]; exact h.st, nc := by rw [g.cell hb (by omega)]; exact h.nc, na := by rw [g.cell hb (by omega)]; exact h.na, vals := h.vals.chg h.blk g (by omega) hC.vg ho, gds := hv }
theorem MR.setS (h : MR w own b o cv cg m st nd) (hC : Cols cv cg) (g : Chg own (fun _ => False) b (o + 1) (o + 5) w w') (ho : ∀ k, k < w.heap.size → own' k = own k) {p st' : Nat} {nd' : Nd} (h1 : w'.cell? ⟨b, o + 1, none⟩ = some (.int .i64 p)) (h2 : w'.cell? ⟨b, o + 2, none⟩ = some (.int .i64 st')) (h3 : w'.cell? ⟨b, o + 3, none⟩ = some (.int .i64 nd'.c)) (h4 : w'.cell? ⟨b, o + 4, none⟩ = some (.bool nd'.a)) : MR w' own' b o cv cg { m with at' := p } st' nd' := by
  exact { blk := h.blk.chg g, code := h.codeChg g (by omega) (fun h => h) ho, at' := h1, st := h2, nc := h3, na := h4, vals := h.vals.chg h.blk g (by omega) (fun h => h) ho, gds := h.gds.chg h.blk g (by omega) (fun h => h) ho }
def MStep (w : World) (own : Nat → Nat) (b o cv cg : Nat) (w' : World) (m : Mc) (st : Nat) (nd : Nd) : Prop := ∃ own', (∀ k, k < w.heap.size → own' k = own k) ∧ MR w' own' b o cv cg m st nd ∧ Chg own (mC cv cg) b o (o + 7) w w'
theorem MStep.trans {w1 w2 : World} {m1 m2 : Mc} {s1 s2 : Nat} {n1 n2 : Nd} (h : MStep w own b o cv cg w1 m1 s1 n1) (g : ∀ own1, MR w1 own1 b o cv cg m1 s1 n1 → MStep w1 own1 b o cv cg w2 m2 s2 n2) : MStep w own b o cv cg w2 m2 s2 n2 := by
  obtain ⟨o1, e1, m1, c1⟩ := h
  obtain ⟨o2, e2, m2, c2⟩ := g o1 m1
  exact ⟨o2, fun k hk => (e2 k (Nat.lt_of_lt_of_le hk c1.size)).trans (e1 k hk), m2, c1.trans c2 e1⟩
theorem MStep.comp {w2 w3 : World} {own2 : Nat → Nat} {m1 : Mc} {s1 : Nat} {n1 : Nd} (e2 : ∀ k, k < w.heap.size → own2 k = own k) (g2 : Chg own (mC cv cg) b o (o + 7) w w2) (h : MStep w2 own2 b o cv cg w3 m1 s1 n1) : MStep w own b o cv cg w3 m1 s1 n1 := by
  obtain ⟨o3, e3, m3, c3⟩ := h
  exact ⟨o3, fun k hk => (e3 k (Nat.lt_of_lt_of_le hk g2.size)).trans (e2 k hk), m3, g2.trans c3 e2⟩
theorem MStep.below {m1 : Mc} {s1 : Nat} {n1 : Nd} (hb : b < w.heap.size) (h : Below w.heap.size w W) (g : MStep W own b o cv cg w' m1 s1 n1) : MStep w own b o cv cg w' m1 s1 n1 := by
  obtain ⟨o1, e1, m1, c1⟩ := g
  exact ⟨o1, fun k hk => e1 k (Nat.lt_of_lt_of_le hk h.size), m1, (Chg.below h hb).trans c1 (fun _ _ => rfl)⟩
theorem MStep.then {w1 w2 : World} {m1 : Mc} {s1 : Nat} {n1 : Nd} (h : MStep w own b o cv cg w1 m1 s1 n1) (g : Below w1.heap.size w1 w2) : MStep w own b o cv cg w2 m1 s1 n1 := by
  obtain ⟨o1, e1, m1, c1⟩ := h
  exact ⟨o1, e1, m1.below g (fun _ _ => rfl), c1.trans (own' := o1) (Chg.below g m1.blk.lt) e1⟩
theorem MStep.take {y : V} {l : List V} (h : MR w own b o cv cg m st nd) (hC : Cols cv cg) (hv : VS w' own b o cv l) (g : Chg own (fun _ => False) b (o + 5) (o + 6) w w') : MStep w own b o cv cg w' { m with vals := l } st nd :=
  ⟨own, fun _ _ => rfl, h.setV hC (g.mono (fun _ h => h.elim) (Nat.le_refl _) (Nat.le_refl _)) (fun _ _ => rfl) hv, g.mono (fun _ h => h.elim) (by omega) (by omega)⟩
theorem MStep.put' {l : List V} (h : MR w own b o cv cg m st nd) (hC : Cols cv cg) (ho : ∀ k, k < w.heap.size → own' k = own k) (hv : VS w' own' b o cv l) (g : Chg own (fun c => c = cv) b (o + 5) (o + 6) w w') : MStep w own b o cv cg w' { m with vals := l } st nd :=
  ⟨own', ho, h.setV hC g ho hv, g.mono (fun _ h => .inl h) (by omega) (by omega)⟩
theorem MStep.state (h : MR w own b o cv cg m st nd) (hC : Cols cv cg) (g : Chg own (fun _ => False) b (o + 1) (o + 5) w w') {p st' : Nat} {nd' : Nd} (h1 : w'.cell? ⟨b, o + 1, none⟩ = some (.int .i64 p)) (h2 : w'.cell? ⟨b, o + 2, none⟩ = some (.int .i64 st')) (h3 : w'.cell? ⟨b, o + 3, none⟩ = some (.int .i64 nd'.c)) (h4 : w'.cell? ⟨b, o + 4, none⟩ = some (.bool nd'.a)) : MStep w own b o cv cg w' { m with at' := p } st' nd' :=
  ⟨own, fun _ _ => rfl, h.setS hC g (fun _ _ => rfl) h1 h2 h3 h4, g.mono (fun _ h => h.elim) (by omega) (by omega)⟩
theorem Blk.set (h : Blk w b o) (j : Nat) (v : Value) : Blk (w.setCell ⟨b, j, none⟩ v) b o := by
  obtain ⟨cs, t, h1, h2⟩ := h
  exact ⟨_, t, rset h1, by rw [Array.size_setIfInBounds]; exact h2⟩
theorem Blk.al (h : Blk w b o) (z : Obj) : Blk (w.alloc z) b o := by
  obtain ⟨cs, t, h1, h2⟩ := h
  exact ⟨cs, t, rold h1 _, h2⟩
theorem Blk.drew (h : Blk w b o) : Blk w.drew b o := h
theorem Blk.cset (h : Blk w b o) {j : Nat} (hj : j < o + 7) (v : Value) : (w.setCell ⟨b, j, none⟩ v).cell? ⟨b, j, none⟩ = some v := by
  obtain ⟨cs, t, h1, h2⟩ := h
  rw [cell_of_row _ b j _ t (0, 0) (rset h1), Array.getElem?_setIfInBounds_self_of_lt (by omega)]
theorem Blk.coff (h : Blk w b o) {i j : Nat} (hj : i ≠ j) (v : Value) : (w.setCell ⟨b, j, none⟩ v).cell? ⟨b, i, none⟩ = w.cell? ⟨b, i, none⟩ := by
  obtain ⟨cs, t, h1, h2⟩ := h
  rw [cell_of_row _ b i _ t (0, 0) (rset h1), cell_of_row _ b i _ t (0, 0) h1, Array.getElem?_setIfInBounds_ne (fun e => hj e.symm)]
def ext (own : Nat → Nat) (n : Nat) : Nat → Nat := fun k => if k < n then own k else 0
theorem ext_old {n : Nat} : ∀ k, k < n → ext own n k = own k := fun k hk => if_pos hk
theorem ext_new {n k : Nat} (h : n ≤ k) : ext own n k = 0 := if_neg (by omega)
end

set_option maxHeartbeats 1000000 in
theorem mtake (w : World) (own : Nat → Nat) (b o cv cg : Nat) (m : Mc) (st : Nat) (nd : Nd) (l : List V) (y : V) (hC : Hid (Cols cv cg)) (hM : Hid (MR w own b o cv cg m st nd)) (hl : m.vals = l ++ [y]) :
    Calls Tryz.prog 223 #[.pointer (some ⟨b, o, none⟩)] w fun e w' => e = .returned (vV y) ∧ Hid (MStep w own b o cv cg w' { m with vals := l } st nd) :=
  (take_w w own b o cv l y hM.out.blk (by have := hM.out.vals; rw [hl] at this; exact this)).mono fun e w' ⟨h1, h2, h3⟩ => ⟨h1, MStep.take (y := y) hM.out hC.out h2.out h3.out⟩
theorem mput (w : World) (own : Nat → Nat) (b o cv cg : Nat) (m : Mc) (st : Nat) (nd : Nd) (y : V) (hC : Hid (Cols cv cg)) (hM : Hid (MR w own b o cv cg m st nd)) (hl : m.vals.length ≤ 100000) :
    Calls Tryz.prog 205 #[.pointer (some ⟨b, o, none⟩), vV y] w fun e w' => e = .returned (.tuple #[]) ∧ Hid (MStep w own b o cv cg w' (m.push y) st nd) :=
  (put_w w own b o cv m.vals y hM.out.blk hM.out.vals hl).mono fun e w' ⟨h1, h2⟩ => by
    obtain ⟨own', g1, g2, g3⟩ := h2.out
    exact ⟨h1, MStep.put' hM.out hC.out g1 g2 g3⟩
set_option maxHeartbeats 1000000 in
theorem mread (w : World) (own : Nat → Nat) (b o cv cg : Nat) (m : Mc) (st : Nat) (nd nd' : Nd) (hC : Hid (Cols cv cg)) (hM : Hid (MR w own b o cv cg m st nd)) :
    Calls Tryz.prog 220 #[.pointer (some ⟨b, o, none⟩), .agg #[.int .i64 nd'.c, .bool nd'.a]] w fun e w' => e = .returned (.tuple #[]) ∧ Hid (MStep w own b o cv cg w' m 1 nd') := by
  have h1 := hM.out.st
  have h2 := hM.out.nc
  have h3 := hM.out.na
  have hb := hM.out.blk.lt
  have f1 := hM.out.blk.frozen (o + 2)
  have f2 := hM.out.blk.frozen (o + 3)
  have f3 := hM.out.blk.frozen (o + 4)
  have n1 : b ≠ w.heap.size := by omega
  have n2 : w.heap.size ≠ b := by omega
  go_enter Tryz.func220, Tryz.ntmps220
  go_wp2_with fail
  refine bodyPost_end (results_none rfl _ _ _) rfl ⟨rfl, ?_⟩
  have hB := hM.out.blk
  have hB1 := hB.set (o + 3) (.int .i64 nd'.c)
  have hB2 := hB1.set (o + 3 + 1) (.bool nd'.a)
  have hg : Chg own (fun _ => False) b (o + 1) (o + 5) w ((((w.setCell ⟨b, o + 3, none⟩ (.int .i64 nd'.c)).setCell ⟨b, o + 3 + 1, none⟩ (.bool nd'.a)).setCell ⟨b, o + 2, none⟩ (.int .i64 1)).alloc (Obj.cells #[Value.int IntKind.i64 nd'.c, Value.bool nd'.a] 178)) :=
    ((((Chg.refl _ _ _ _ _ _).put (by omega) (by omega) _).put (by omega) (by omega) _).put (by omega) (by omega) _).al hb _
  exact MStep.state (p := m.at') hM.out hC.out hg
    (al (by rw [hB2.coff (by omega), hB1.coff (by omega), hB.coff (by omega)]; exact hM.out.at') _)
    (al (hB2.cset (by omega) _) _)
    (al (by rw [hB2.coff (by omega), hB1.coff (by omega)]; exact hB.cset (by omega) _) _)
    (al (by rw [hB2.coff (by omega)]; exact hB1.cset (by omega) _) _)
set_option maxHeartbeats 2000000 in
theorem mrn_type (w : World) (own : Nat → Nat) (b o cv cg : Nat) (m : Mc) (st : Nat) (nd : Nd) (l : List V) (y : V) (hC : Hid (Cols cv cg)) (hM : Hid (MR w own b o cv cg m st nd)) (hl : Hid (m.vals = l ++ [y])) (hn : Hid (m.vals.length ≤ 100000)) (h3 : y.k ≠ 3) :
    Calls Tryz.prog 221 #[.pointer (some ⟨b, o, none⟩)] w fun e w' => e = .returned (.tuple #[]) ∧ Hid (MStep w own b o cv cg w' { m with vals := l ++ [vE 4] } st nd) := by
  have hb : Hid (b < w.heap.size) := hM.out.blk.lt
  have hln : Hid (l.length ≤ 100000) := by have := hn.out; rw [hl.out] at this; simp at this; unfold Hid; omega
  have h3' : (y.k != 3) = true := by simpa using h3
  clear h3
  go_enter Tryz.func221, Tryz.ntmps221
  go_wp2_with fail
  refine (mtake _ own b o cv cg m st nd l y hC hM hl.out).mono ?_
  rintro e w1 ⟨rfl, h1⟩
  unfold vV
  go_wp2_with fail
  refine (error_w 4 _).mono ?_
  rintro e w2 ⟨rfl, hb2⟩
  have H2 : Hid (MStep w own b o cv cg w2 { m with vals := l } st nd) := h1.out.then ((bl1 _ _).trans (hb2.mono (by simp)))
  clear hb2
  go_wp2_with fail
  obtain ⟨own2, e2, M2, g2⟩ := H2.out
  have E2 : Hid _ := e2
  have G2 : Hid _ := g2
  have HM2 : Hid _ := M2
  clear e2 M2 g2
  refine (mput _ own2 b o cv cg { m with vals := l } st nd (vE 4) hC HM2 hln.out).mono ?_
  rintro e wp2 ⟨rfl, hp2⟩
  have HF : Hid (MStep w own b o cv cg wp2 { m with vals := l ++ [vE 4] } st nd) := MStep.comp E2.out G2.out hp2.out
  clear hp2
  go_wp2_with fail
  refine bodyPost_ret (results_none rfl _ _ _) rfl ?_
  exact ⟨rfl, HF⟩
set_option maxHeartbeats 2000000 in
theorem mrn_ref (w : World) (own : Nat → Nat) (b o cv cg : Nat) (m : Mc) (st : Nat) (nd : Nd) (l : List V) (y : V) (hC : Hid (Cols cv cg)) (hM : Hid (MR w own b o cv cg m st nd)) (hl : Hid (m.vals = l ++ [y])) (hn : Hid (m.vals.length ≤ 100000)) (h3 : y.k = 3) (hN : Hid (cellN y.s.data.toList = none)) :
    Calls Tryz.prog 221 #[.pointer (some ⟨b, o, none⟩)] w fun e w' => e = .returned (.tuple #[]) ∧ Hid (MStep w own b o cv cg w' { m with vals := l ++ [vE 3] } st nd) := by
  have hb : Hid (b < w.heap.size) := hM.out.blk.lt
  have hln : Hid (l.length ≤ 100000) := by have := hn.out; rw [hl.out] at this; simp at this; unfold Hid; omega
  have h3' : (y.k != 3) = false := by simpa using h3
  clear h3
  go_enter Tryz.func221, Tryz.ntmps221
  go_wp2_with fail
  refine (mtake _ own b o cv cg m st nd l y hC hM hl.out).mono ?_
  rintro e w1 ⟨rfl, h1⟩
  unfold vV
  go_wp2_with fail
  refine (num_none hN.out _).mono ?_
  rintro e w2 ⟨rfl, nq, hw2⟩
  have H2 : Hid (MStep w own b o cv cg w2 { m with vals := l } st nd) := by unfold Hid; rw [hw2]; exact h1.out.then (below_drewN (bl1 _ _) nq)
  clear hw2
  go_wp2_with fail
  refine (error_w 3 _).mono ?_
  rintro e w3 ⟨rfl, hb3⟩
  have H3 : Hid (MStep w own b o cv cg w3 { m with vals := l } st nd) := H2.out.then hb3
  clear hb3
  go_wp2_with fail
  obtain ⟨own3, e3, M3, g3⟩ := H3.out
  have E3 : Hid _ := e3
  have G3 : Hid _ := g3
  have HM3 : Hid _ := M3
  clear e3 M3 g3
  refine (mput _ own3 b o cv cg { m with vals := l } st nd (vE 3) hC HM3 hln.out).mono ?_
  rintro e wp3 ⟨rfl, hp3⟩
  have HF : Hid (MStep w own b o cv cg wp3 { m with vals := l ++ [vE 3] } st nd) := MStep.comp E3.out G3.out hp3.out
  clear hp3
  go_wp2_with fail
  refine bodyPost_ret (results_none rfl _ _ _) rfl ?_
  exact ⟨rfl, HF⟩
set_option maxHeartbeats 2000000 in
theorem mrn_ok (w : World) (own : Nat → Nat) (b o cv cg : Nat) (m : Mc) (st : Nat) (nd : Nd) (l : List V) (y : V) (hC : Hid (Cols cv cg)) (hM : Hid (MR w own b o cv cg m st nd)) (hl : Hid (m.vals = l ++ [y])) (hn : Hid (m.vals.length ≤ 100000)) (h3 : y.k = 3) (c : Nat) (hN : Hid (cellN y.s.data.toList = some c)) :
    Calls Tryz.prog 221 #[.pointer (some ⟨b, o, none⟩)] w fun e w' => e = .returned (.tuple #[]) ∧ Hid (MStep w own b o cv cg w' { m with vals := l } 1 ⟨c, false⟩) := by
  have hb : Hid (b < w.heap.size) := hM.out.blk.lt
  have hln : Hid (l.length ≤ 100000) := by have := hn.out; rw [hl.out] at this; simp at this; unfold Hid; omega
  have h3' : (y.k != 3) = false := by simpa using h3
  clear h3
  go_enter Tryz.func221, Tryz.ntmps221
  go_wp2_with fail
  refine (mtake _ own b o cv cg m st nd l y hC hM hl.out).mono ?_
  rintro e w1 ⟨rfl, h1⟩
  unfold vV
  go_wp2_with fail
  refine (num_some hN.out _).mono ?_
  rintro e w2 ⟨rfl, nq, hw2⟩
  have H2 : Hid (MStep w own b o cv cg w2 { m with vals := l } st nd) := by unfold Hid; rw [hw2]; exact h1.out.then (below_drewN (bl1 _ _) nq)
  clear hw2
  go_wp2_with fail
  obtain ⟨own2, e2, M2, g2⟩ := H2.out
  have E2 : Hid _ := e2
  have G2 : Hid _ := g2
  have HM2 : Hid _ := M2
  clear e2 M2 g2
  refine (mread _ own2 b o cv cg { m with vals := l } st nd ⟨c, false⟩ hC HM2).mono ?_
  rintro e w3 ⟨rfl, h3⟩
  have HF : Hid (MStep w own b o cv cg w3 { m with vals := l } 1 ⟨c, false⟩) := MStep.comp E2.out G2.out h3.out
  clear h3
  go_wp2_with fail
  refine bodyPost_end (results_none rfl _ _ _) rfl ?_
  exact ⟨rfl, HF⟩
end Go.Proofs.YtiocnfambeochaaGreatDoor

/- Plain mathematics: what stays true of a machine as it goes: its stack is no longer than its place; jumps go ahead. -/
set_option linter.unusedVariables false
set_option linter.unusedSimpArgs false
namespace Go.Proofs.YtiocnfambeochaaGreatDoor

structure InsOK (i : Ins) (p hi : Nat) : Prop where
  op : i.op ≤ 16
  v : OKV i.v
  cell : i.cell < 48
  to : i.op = 13 ∨ i.op = 14 ∨ i.op = 15 → p < i.to
  hi : i.to ≤ hi
def SegOK (off : Nat) (seg : List Ins) (hi : Nat) : Prop := ∀ (j : Nat) (i : Ins), seg[j]? = some i → InsOK i (off + j) hi
theorem SegOK.mono {off hi hi' : Nat} {seg : List Ins} (h : SegOK off seg hi) (hh : hi ≤ hi') : SegOK off seg hi' := fun j i hj => by
  have := h j i hj
  exact ⟨this.op, this.v, this.cell, this.to, Nat.le_trans this.hi hh⟩
theorem segOK_nil (off hi : Nat) : SegOK off [] hi := fun j i hj => by simp at hj
theorem segOK_cons {off hi : Nat} {i : Ins} {l : List Ins} (h : InsOK i off hi) (hl : SegOK (off + 1) l hi) : SegOK off (i :: l) hi := fun j x hj => by
  cases j with
  | zero => simp at hj; subst hj; exact h
  | succ j => rw [List.getElem?_cons_succ] at hj; have := hl j x hj; rw [show off + (j + 1) = off + 1 + j by omega]; exact this
theorem segOK_app {off hi : Nat} {a b : List Ins} (ha : SegOK off a hi) (hb : SegOK (off + a.length) b hi) : SegOK off (a ++ b) hi := fun j x hj => by
  by_cases h : j < a.length
  · rw [List.getElem?_append_left h] at hj; exact ha j x hj
  · rw [List.getElem?_append_right (by omega)] at hj
    have := hb _ x hj
    rw [show off + a.length + (j - a.length) = off + j by omega] at this; exact this
theorem insOK_put {v : V} (hv : OKV v) (p hi : Nat) : InsOK (iPut v) p hi := ⟨by show 0 ≤ 16; decide, hv, by show 0 < 48; decide, fun h => by simp [iPut] at h, Nat.zero_le _⟩
theorem insOK_op {op : Nat} (h : op ≤ 12 ∨ op = 16) (p hi : Nat) : InsOK (iOp op) p hi := ⟨by show op ≤ 16; omega, okv_none, by show 0 < 48; decide, fun e => by have : op = 13 ∨ op = 14 ∨ op = 15 := e; omega, Nat.zero_le _⟩
theorem insOK_read {op c : Nat} (h : op ≤ 2) (hc : c < 48) (p hi : Nat) : InsOK (iRead op c) p hi := ⟨by show op ≤ 16; omega, okv_none, hc, fun e => by have : op = 13 ∨ op = 14 ∨ op = 15 := e; omega, Nat.zero_le _⟩
theorem insOK_to {op to p hi : Nat} (h : op ≤ 16) (h1 : p < to) (h2 : to ≤ hi) : InsOK (iTo op to) p hi := ⟨h, okv_none, by show 0 < 48; decide, fun _ => h1, h2⟩
theorem segOK_each {o1 o2 : Nat} (h1 : o1 ≤ 2) (h2 : o2 ≤ 12) (hi : Nat) : ∀ (l : List Nat) (off : Nat), (∀ c ∈ l, c < 48) → SegOK off (eachI o1 o2 l) hi
  | [], off, _ => segOK_nil _ _
  | c :: l, off, hl => by
    show SegOK off (iRead o1 c :: iOp o2 :: eachI o1 o2 l) hi
    exact segOK_cons (insOK_read h1 (hl c List.mem_cons_self) _ _) (segOK_cons (insOK_op (.inl h2) _ _) (segOK_each h1 h2 hi l _ (fun c hc => hl c (List.mem_cons_of_mem _ hc))))
theorem eachI_len (o1 o2 : Nat) : ∀ (l : List Nat), (eachI o1 o2 l).length = 2 * l.length
  | [] => rfl
  | c :: l => by
    show (iRead o1 c :: iOp o2 :: eachI o1 o2 l).length = _
    simp only [List.length_cons, eachI_len o1 o2 l]; omega
theorem flatMap_le {α β : Type} {f : α → List β} {m : Nat} : ∀ (l : List α), (∀ a ∈ l, (f a).length ≤ m) → (l.flatMap f).length ≤ l.length * m
  | [], _ => by simp
  | a :: l, h => by
    have h1 := h a List.mem_cons_self
    have h2 := flatMap_le l (fun x hx => h x (List.mem_cons_of_mem _ hx))
    rw [List.flatMap_cons, List.length_append, List.length_cons, Nat.succ_mul]; omega
theorem rangeL_len {a b : Nat} (ha : a < 48) (hb : b < 48) : (rangeL a b).length ≤ 48 := by
  unfold rangeL
  refine Nat.le_trans (flatMap_le (m := 6) _ (fun r _ => ?_)) ?_
  · simp only [List.length_map, List.length_range']; omega
  · simp only [List.length_range']; omega
theorem hk_tail (ts : List Tk) : ts.tail.length ≤ ts.length := by cases ts <;> simp
theorem hk_tail1 {ts : List Tk} (h : hk ts ≠ 0) : ts.tail.length + 1 = ts.length := by
  cases ts with
  | nil => exact absurd rfl h
  | cons a l => simp
theorem cmp_ok : ∀ (f tag off : Nat) (s : List Ins) (d : Beh) (ts : List Tk) (seg : List Ins) (d' : Beh) (rest : List Tk), tag < 7 → cmp f tag off s d ts = some (seg, d', rest) →
    (3 < tag → SegOK off s (off + s.length)) → (tag < 4 → s = []) → SegOK off seg (off + seg.length) ∧ rest.length ≤ ts.length ∧ seg.length + 100 * rest.length ≤ s.length + 100 * ts.length
  | 0, _, _, _, _, _, _, _, _, _, h, _, _ => by simp [cmp] at h
  | f + 1, tag, off, s, d, ts, seg, d', rest, htag, h, hp, hs => by
    have ih := cmp_ok f
    rw [cmp] at h
    by_cases h3 : tag < 3
    · rw [if_pos h3] at h
      obtain ⟨⟨s1, d1, r1⟩, hx, h⟩ := bind_some h
      obtain ⟨a1, a2, a3⟩ := ih (tag + 1) off [] _ ts s1 d1 r1 (by omega) hx (fun e => absurd e (by omega)) (fun _ => rfl)
      obtain ⟨b1, b2, b3⟩ := ih (tag + 4) off s1 d1 r1 seg d' rest (by omega) h (fun _ => a1) (fun e => absurd e (by omega))
      rw [hs (by omega)]
      simp only [List.length_nil] at a3 ⊢
      exact ⟨b1, by omega, by omega⟩
    rw [if_neg h3] at h
    by_cases t3 : tag = 3
    · rw [if_pos t3] at h
      have hs0 := hs (by omega)
      subst hs0
      have one : ∀ {i : Ins} {n : Nat}, InsOK i off (off + 1) → SegOK off [i] (off + [i].length) := fun h => segOK_cons h (segOK_nil _ _)
      have tl := hk_tail ts
      by_cases k23 : hk ts = 23
      · rw [if_pos k23] at h
        obtain ⟨⟨s1, d1, r1⟩, hx, h⟩ := bind_some h
        cases h
        obtain ⟨a1, a2, a3⟩ := ih 3 off [] _ _ s1 d1 r1 (by omega) hx (fun e => absurd e (by omega)) (fun _ => rfl)
        have ht := hk_tail1 (ts := ts) (by rw [k23]; decide)
        simp only [List.length_append, List.length_cons, List.length_nil] at a3 ⊢
        exact ⟨segOK_app (a1.mono (by omega)) (segOK_cons (insOK_op (.inl (by decide)) _ _) (segOK_nil _ _)), by omega, by omega⟩
      rw [if_neg k23] at h
      by_cases k1 : hk ts = 1
      · rw [if_pos k1] at h
        have ht := hk_tail1 (ts := ts) (by rw [k1]; decide)
        split at h
        · rename_i hv
          cases h
          exact ⟨segOK_cons (insOK_put (ok_i (by unfold I64; omega)) _ _) (segOK_nil _ _), tl, by simp only [List.length_cons, List.length_nil]; omega⟩
        · cases h
      rw [if_neg k1] at h
      by_cases k2 : hk ts = 2
      · rw [if_pos k2] at h
        have ht := hk_tail1 (ts := ts) (by rw [k2]; decide)
        split at h
        · rename_i hv
          cases h
          exact ⟨segOK_cons (insOK_put (ok_t (by simp only [ByteArray.size, List.size_toArray, List.length_dropLast, List.length_drop]; omega)) _ _) (segOK_nil _ _), tl, by simp only [List.length_cons, List.length_nil]; omega⟩
        · cases h
      rw [if_neg k2] at h
      by_cases k3 : hk ts = 3 ∨ hk ts = 4
      · rw [if_pos k3] at h
        have ht := hk_tail1 (ts := ts) (by intro e; rw [e] at k3; omega)
        cases h
        exact ⟨segOK_cons (insOK_put (ok_b _) _ _) (segOK_nil _ _), tl, by simp only [List.length_cons, List.length_nil]; omega⟩
      rw [if_neg k3] at h
      by_cases k5 : hk ts = 5
      · rw [if_pos k5] at h
        have ht := hk_tail1 (ts := ts) (by rw [k5]; decide)
        obtain ⟨c, hc, h⟩ := bind_some h
        cases h
        exact ⟨segOK_cons (insOK_read (by decide) (cellN_lt hc) _ _) (segOK_nil _ _), tl, by simp only [List.length_cons, List.length_nil]; omega⟩
      rw [if_neg k5] at h
      by_cases k12 : hk ts = 12
      · rw [if_pos k12] at h
        obtain ⟨⟨s1, d1, r1⟩, hx, h⟩ := bind_some h
        cases h
        obtain ⟨a1, a2, a3⟩ := ih 0 off [] _ _ _ _ r1 (by omega) hx (fun e => absurd e (by omega)) (fun _ => rfl)
        have h1 := hk_tail r1
        simp only [List.length_nil] at a3 ⊢
        exact ⟨a1, by omega, by omega⟩
      rw [if_neg k12] at h
      by_cases k6 : hk ts = 6
      · rw [if_pos k6] at h
        have ht := hk_tail1 (ts := ts) (by rw [k6]; decide)
        obtain ⟨⟨s1, d1, r1⟩, hx, h⟩ := bind_some h
        obtain ⟨⟨s2, d2, r2⟩, hy, h⟩ := bind_some h
        obtain ⟨⟨s3, d3, r3⟩, hz, h⟩ := bind_some h
        cases h
        dsimp only at hy hz ⊢
        obtain ⟨a1, a2, a3⟩ := ih 0 off [] _ _ s1 d1 r1 (by omega) hx (fun e => absurd e (by omega)) (fun _ => rfl)
        obtain ⟨b1, b2, b3⟩ := ih 0 _ [] _ _ s2 d2 r2 (by omega) hy (fun e => absurd e (by omega)) (fun _ => rfl)
        obtain ⟨c1, c2, c3⟩ := ih 0 _ [] _ _ s3 d3 r3 (by omega) hz (fun e => absurd e (by omega)) (fun _ => rfl)
        have t1 := hk_tail ts.tail
        have t2 := hk_tail r1
        have t4 := hk_tail r2
        have t5 := hk_tail r3
        simp only [List.length_nil] at a3 b3 c3 ⊢
        have el : off + (s1 ++ iTo 13 (off + s1.length + 1 + s2.length + 1) :: (s2 ++ iTo 14 (off + s1.length + 1 + s2.length + 1 + s3.length) :: s3)).length = off + s1.length + 1 + s2.length + 1 + s3.length := by simp; omega
        refine ⟨?_, by omega, ?_⟩
        · rw [el]
          exact segOK_app (a1.mono (by omega)) (segOK_cons (insOK_to (by decide) (by omega) (by omega)) (segOK_app (b1.mono (by omega)) (segOK_cons (insOK_to (by decide) (by omega) (by omega)) (c1.mono (by omega)))))
        · simp only [List.length_append, List.length_cons]; omega
      rw [if_neg k6] at h
      by_cases k7 : hk ts = 7
      · rw [if_pos k7] at h
        have ht := hk_tail1 (ts := ts) (by rw [k7]; decide)
        obtain ⟨⟨s1, d1, r1⟩, hx, h⟩ := bind_some h
        cases h
        obtain ⟨a1, a2, a3⟩ := ih 0 off [] _ _ s1 d1 r1 (by omega) hx (fun e => absurd e (by omega)) (fun _ => rfl)
        have t1 := hk_tail ts.tail
        have t2 := hk_tail r1
        simp only [List.length_append, List.length_cons, List.length_nil] at a3 ⊢
        exact ⟨segOK_app (a1.mono (by omega)) (segOK_cons (insOK_op (.inl (by decide)) _ _) (segOK_nil _ _)), by omega, by omega⟩
      rw [if_neg k7] at h
      by_cases k8 : hk ts = 8
      · rw [if_pos k8] at h
        have ht := hk_tail1 (ts := ts) (by rw [k8]; decide)
        obtain ⟨⟨s1, d1, r1⟩, hx, h⟩ := bind_some h
        cases h
        dsimp only at hx ⊢
        obtain ⟨a1, a2, a3⟩ := ih 0 (off + 1) [] _ _ s1 d1 r1 (by omega) hx (fun e => absurd e (by omega)) (fun _ => rfl)
        have t1 := hk_tail ts.tail
        have t2 := hk_tail r1
        simp only [List.length_append, List.length_cons, List.length_nil] at a3 ⊢
        exact ⟨segOK_cons (insOK_to (by decide) (by omega) (by omega)) (segOK_app (a1.mono (by omega)) (segOK_cons (insOK_op (.inr rfl) _ _) (segOK_nil _ _))), by omega, by omega⟩
      rw [if_neg k8] at h
      by_cases k9 : hk ts = 9 ∨ hk ts = 10
      · rw [if_pos k9] at h
        have ht := hk_tail1 (ts := ts) (by intro e; rw [e] at k9; omega)
        obtain ⟨a, ha, h⟩ := bind_some h
        obtain ⟨b, hb, h⟩ := bind_some h
        cases h
        have hl := rangeL_lt (cellN_lt ha) (cellN_lt hb)
        have hn := rangeL_len (cellN_lt ha) (cellN_lt hb)
        have t1 := hk_tail ts.tail
        have t2 := hk_tail ts.tail.tail
        have t3 := hk_tail ts.tail.tail.tail
        have t4 := hk_tail ts.tail.tail.tail.tail
        have t5 := hk_tail ts.tail.tail.tail.tail.tail
        refine ⟨?_, by omega, ?_⟩
        · refine segOK_cons (insOK_put okv_zero _ _) ?_
          split
          · exact segOK_each (by decide) (by decide) _ _ _ hl
          · exact segOK_each (by decide) (by decide) _ _ _ hl
        · rw [List.length_cons]
          split <;> (rw [eachI_len]; simp only [List.length_nil]; omega)
      rw [if_neg k9] at h
      cases h
    rw [if_neg t3] at h
    by_cases hq : hk ts ∈ signs (tag - 4)
    · rw [if_pos hq] at h
      have ht := hk_tail1 (ts := ts) (by
        intro e; rw [e] at hq
        unfold signs at hq
        repeat' split at hq
        all_goals simp at hq)
      obtain ⟨⟨s1, d1, r1⟩, hx, h⟩ := bind_some h
      dsimp only at h
      obtain ⟨a1, a2, a3⟩ := ih (tag - 3) (off + s.length) [] _ _ s1 d1 r1 (by omega) hx (fun e => absurd e (by omega)) (fun _ => rfl)
      have so := signs_op hq
      obtain ⟨b1, b2, b3⟩ := ih tag off (s ++ (s1 ++ [iOp (signOp (hk ts))])) _ r1 seg d' rest htag h (fun _ => by
        have hp' := hp (by omega)
        simp only [List.length_append, List.length_cons, List.length_nil]
        exact segOK_app (hp'.mono (by omega)) (segOK_app (a1.mono (by omega)) (segOK_cons (insOK_op (.inl (by omega)) _ _) (segOK_nil _ _)))) (fun e => absurd e (by omega))
      simp only [List.length_append, List.length_cons, List.length_nil] at a3 b3
      exact ⟨b1, by omega, by omega⟩
    · rw [if_neg hq] at h
      cases h
      exact ⟨hp (by omega), Nat.le_refl _, Nat.le_refl _⟩

structure MI (m : Mc) : Prop where
  code : SegOK 0 m.code m.code.length
  small : m.code.length ≤ 90000
  at' : m.at' ≤ m.code.length
  len : m.vals.length ≤ m.at'
  vals : ∀ v ∈ m.vals, OKV v
  gd : ∀ g ∈ m.gd, g.2 < g.1 ∧ g.1 ≤ m.code.length
  gl : m.gd.length ≤ m.at'
  gi : ∀ (j : Nat) (g : Nat × Nat), m.gd[j]? = some g → j < g.1
theorem MI.ins {m : Mc} (h : MI m) {i : Ins} (hi : m.code[m.at']? = some i) : InsOK i m.at' m.code.length ∧ m.at' < m.code.length := by
  have := h.code m.at' i hi
  rw [Nat.zero_add] at this
  exact ⟨this, (List.getElem?_eq_some_iff.1 hi).1⟩
theorem last_split {α : Type} {l : List α} {y : α} (h : l.getLast? = some y) : l = l.dropLast ++ [y] := by
  rw [List.getLast?_eq_some_iff] at h
  obtain ⟨a, rfl⟩ := h
  simp
theorem mem_dropLast {α : Type} {l : List α} {y : α} (h : y ∈ l.dropLast) : y ∈ l := (List.dropLast_sublist l).subset h
theorem drop_get {α : Type} {l : List α} {j : Nat} {y : α} (h : l.dropLast[j]? = some y) : l[j]? = some y := by
  rw [List.getElem?_dropLast] at h
  split at h
  · exact h
  · cases h
theorem MI.step {m m' : Mc} {i : Ins} {o : Option Nd} (h : MI m) (hi : m.code[m.at']? = some i) (hs : stepM m i = some (m', o)) : MI m' ∧ m'.code = m.code ∧ (o ≠ none → m'.vals.length < m'.at') ∧ (∀ nd, o = some nd → nd.c < 48) := by
  obtain ⟨hI, hlt⟩ := h.ins hi
  have hl := h.len
  have hg := h.gl
  unfold stepM at hs
  have one : ∀ {l : List V} {v : V}, (∀ x ∈ l, x ∈ m.vals) → OKV v → ∀ x ∈ l ++ [v], OKV x := by
    intro l v h1 h2 x hx
    rcases List.mem_append.1 hx with hx | hx
    · exact h.vals x (h1 x hx)
    · rw [List.mem_singleton] at hx; subst hx; exact h2
  by_cases e0 : i.op = 0
  · rw [if_pos e0] at hs
    cases hs
    exact ⟨{ code := h.code, small := h.small, at' := hlt, len := by simp [Mc.push]; omega, vals := one (fun x hx => hx) hI.v, gd := h.gd, gl := by simp [Mc.push]; omega, gi := h.gi }, rfl, fun e => absurd rfl e, fun nd e => by cases e⟩
  rw [if_neg e0] at hs
  by_cases e1 : i.op = 1 ∨ i.op = 2
  · rw [if_pos e1] at hs
    cases hs
    exact ⟨{ code := h.code, small := h.small, at' := hlt, len := by simp; omega, vals := h.vals, gd := h.gd, gl := by simp; omega, gi := h.gi }, rfl, fun _ => by simp; omega, fun nd e => by cases e; exact hI.cell⟩
  rw [if_neg e1] at hs
  by_cases e14 : i.op = 14
  · rw [if_pos e14] at hs
    cases hs
    have := hI.to (.inr (.inl e14))
    exact ⟨{ code := h.code, small := h.small, at' := hI.hi, len := by simp; omega, vals := h.vals, gd := h.gd, gl := by simp; omega, gi := h.gi }, rfl, fun e => absurd rfl e, fun nd e => by cases e⟩
  rw [if_neg e14] at hs
  by_cases e15 : i.op = 15
  · rw [if_pos e15] at hs
    cases hs
    have := hI.to (.inr (.inr e15))
    refine ⟨{ code := h.code, small := h.small, at' := hlt, len := by simp; omega, vals := h.vals, gd := ?_, gl := by simp; omega, gi := ?_ }, rfl, fun e => absurd rfl e, fun nd e => by cases e⟩
    · intro g hgm
      rcases List.mem_append.1 hgm with hgm | hgm
      · exact h.gd g hgm
      · rw [List.mem_singleton] at hgm; subst hgm; exact ⟨by simp; omega, hI.hi⟩
    · intro j g hj
      have hj : (m.gd ++ [(i.to, m.vals.length)])[j]? = some g := hj
      by_cases hjl : j < m.gd.length
      · rw [List.getElem?_append_left hjl] at hj; exact h.gi j g hj
      · have hj2 := (List.getElem?_eq_some_iff.1 hj).1
        simp only [List.length_append, List.length_singleton] at hj2
        have : j = m.gd.length := by omega
        subst this
        simp at hj
        subst hj
        simp only
        omega
  rw [if_neg e15] at hs
  cases hy : m.vals.getLast? with
  | none => rw [hy] at hs; cases hs
  | some y =>
  rw [hy] at hs
  dsimp only at hs
  have hys := last_split hy
  have hdl : m.vals.length = m.vals.dropLast.length + 1 := by
    have := congrArg List.length hys
    simpa using this
  have hsub : ∀ x ∈ m.vals.dropLast, x ∈ m.vals := fun x hx => mem_dropLast hx
  have mk1 : ∀ {v : V}, OKV v → MI ⟨m.code, m.at' + 1, m.vals.dropLast ++ [v], m.gd⟩ := fun hv =>
    { code := h.code, small := h.small, at' := hlt, len := by simp only [List.length_append, List.length_singleton]; omega, vals := one hsub hv, gd := h.gd, gl := by simp; omega, gi := h.gi }
  have mk0 : ∀ {p : Nat}, m.at' < p → p ≤ m.code.length → MI ⟨m.code, p, m.vals.dropLast, m.gd⟩ := fun h1 h2 =>
    { code := h.code, small := h.small, at' := h2, len := by simp only; omega, vals := fun x hx => h.vals x (hsub x hx), gd := h.gd, gl := by simp only; omega, gi := h.gi }
  by_cases e3 : i.op = 3
  · rw [if_pos e3] at hs
    by_cases y3 : y.k ≠ 3
    · rw [if_pos y3] at hs
      cases hs; exact ⟨mk1 ok_e4, rfl, fun e => absurd rfl e, fun nd e => by cases e⟩
    · rw [if_neg y3] at hs
      cases hc : cellN y.s.data.toList with
      | none =>
        rw [hc] at hs
        cases hs; exact ⟨mk1 ok_e3, rfl, fun e => absurd rfl e, fun nd e => by cases e⟩
      | some c =>
        rw [hc] at hs
        cases hs
        exact ⟨mk0 (by omega) hlt, rfl, fun _ => by simp only; omega, fun nd e => by cases e; exact cellN_lt hc⟩
  rw [if_neg e3] at hs
  by_cases e4 : i.op = 4
  · rw [if_pos e4] at hs
    cases hs; exact ⟨mk1 (ok_neg _), rfl, fun e => absurd rfl e, fun nd e => by cases e⟩
  rw [if_neg e4] at hs
  by_cases e13 : i.op = 13
  · rw [if_pos e13] at hs
    by_cases y2 : y.k ≠ 2
    · rw [if_pos y2] at hs
      cases hs; exact ⟨mk1 ok_e4, rfl, fun e => absurd rfl e, fun nd e => by cases e⟩
    · rw [if_neg y2] at hs
      have := hI.to (.inl e13)
      have := hI.hi
      cases hs
      refine ⟨mk0 ?_ ?_, rfl, fun e => absurd rfl e, fun nd e => by cases e⟩
      · split <;> omega
      · split <;> omega
  rw [if_neg e13] at hs
  by_cases e16 : i.op = 16
  · rw [if_pos e16] at hs
    by_cases g0 : m.gd = []
    · rw [if_pos g0] at hs; cases hs
    · rw [if_neg g0] at hs
      cases hs
      refine ⟨{ code := h.code, small := h.small, at' := hlt, len := by simp only [List.length_append, List.length_singleton]; omega, vals := one hsub (ok_b _), gd := fun g hg => h.gd g (mem_dropLast hg), gl := by simp; omega, gi := fun j g hj => h.gi j g (drop_get hj) }, rfl, fun e => absurd rfl e, fun nd e => by cases e⟩
  rw [if_neg e16] at hs
  by_cases e12 : i.op = 12 ∧ y.k ≠ 1
  · rw [if_pos e12] at hs
    cases hs; exact ⟨mk0 (by omega) hlt, rfl, fun e => absurd rfl e, fun nd e => by cases e⟩
  rw [if_neg e12] at hs
  cases hx : m.vals.dropLast.getLast? with
  | none => rw [hx] at hs; cases hs
  | some x =>
    rw [hx] at hs
    have hxs := last_split hx
    have hdl2 : m.vals.dropLast.length = m.vals.dropLast.dropLast.length + 1 := by
      have := congrArg List.length hxs
      simpa using this
    cases hs
    refine ⟨{ code := h.code, small := h.small, at' := hlt, len := by simp only [List.length_append, List.length_singleton]; omega, vals := one (fun x hx => hsub x (mem_dropLast hx)) ?_, gd := h.gd, gl := by simp; omega, gi := h.gi }, rfl, fun e => absurd rfl e, fun nd e => by cases e⟩
    split
    · exact ok_add _ _
    · exact ok_comb _ _ _
theorem MI.rescue {m : Mc} {g : Nat × Nat} (h : MI m) (hg : m.gd.getLast? = some g) (hl : g.2 ≤ m.vals.length) : MI ⟨m.code, g.1, m.vals.take g.2 ++ [vB true], m.gd.dropLast⟩ := by
  have := h.gd g (List.mem_of_getLast? hg)
  have hj : m.gd.length - 1 < g.1 := by
    refine h.gi _ g ?_
    rw [List.getLast?_eq_getElem?] at hg; exact hg
  refine { code := h.code, small := h.small, at' := this.2, len := by simp; omega, vals := ?_, gd := fun x hx => h.gd x (mem_dropLast hx), gl := by simp only [List.length_dropLast]; omega, gi := fun j g hj => h.gi j g (drop_get hj) }
  intro x hx
  rcases List.mem_append.1 hx with hx | hx
  · exact h.vals x (List.mem_of_mem_take hx)
  · rw [List.mem_singleton] at hx; subst hx; exact ok_b _
theorem MI.push {m : Mc} (h : MI m) (hl : m.vals.length < m.at') {v : V} (hv : OKV v) : MI (m.push v) :=
  { code := h.code, small := h.small, at' := h.at', len := by simp [Mc.push]; omega, gd := h.gd, gl := h.gl, gi := h.gi, vals := by
      intro x hx
      rcases List.mem_append.1 hx with hx | hx
      · exact h.vals x hx
      · rw [List.mem_singleton] at hx; subst hx; exact hv }
end Go.Proofs.YtiocnfambeochaaGreatDoor
