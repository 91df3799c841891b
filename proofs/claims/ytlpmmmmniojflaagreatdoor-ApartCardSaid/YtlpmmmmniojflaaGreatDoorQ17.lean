/- Texts put together. -/
import Derived.Test.YtlpmmmmniojflaaGreatDoorValE
import Derived.Test.YtlpmmmmniojflaaGreatDoorQ14
import Derived.Test.YtlpmmmmniojflaaGreatDoorQ15
/- Values, walked: Divide; combine. -/
set_option linter.unusedVariables false
set_option linter.unusedSimpArgs false
namespace Go.Proofs.YtlpmmmmniojflaaGreatDoor
open Go.RowKit
set_option maxHeartbeats 2000000 in
theorem both_w (a b : V) (h1 : a.k = 1) (h2 : b.k = 1) : Gives 255 #[.int .i64 1, vV a, vV b] (.bool true) := by
  intro w
  unfold vV
  go_enter Tryz.func255, Tryz.ntmps255
  go_wp2
  go_returns
  exact ⟨rfl, by repeat (first | exact Below.refl _ _ | refine bal ?_ _)⟩
theorem keep3 {w W : World} {a b c : Value} {t : TypeId} {q : Nat} (hq : q < w.heap.size) (hb : Below w.heap.size w W) (h : w.heap[q]? = some (.cells #[a, b, c] t (0, 0))) : W.cell? ⟨q, 0, none⟩ = some a ∧ W.cell? ⟨q, 1, none⟩ = some b ∧ W.cell? ⟨q, 2, none⟩ = some c ∧ W.frozen? ⟨q, 0, none⟩ = false ∧ W.frozen? ⟨q, 1, none⟩ = false ∧ W.frozen? ⟨q, 2, none⟩ = false :=
  box3 (hb.block q hq) h
theorem al0 (w : World) (x y z : Obj) : (((w.alloc x).alloc y).alloc z).heap[w.heap.size]? = some x := by
  rw [Below.heap_alloc _ _ _ (by simp; omega), Below.heap_alloc _ _ _ (by simp)]; exact heap_alloc_new w _
theorem al1 (w : World) (x y z : Obj) : (((w.alloc x).alloc y).alloc z).heap[w.heap.size + 1]? = some y := by
  rw [Below.heap_alloc _ _ _ (by simp)]
  have := heap_alloc_new (w.alloc x) y
  rw [show (w.alloc x).heap.size = w.heap.size + 1 by simp] at this
  exact this
theorem al2 (w : World) (x y z : Obj) : (((w.alloc x).alloc y).alloc z).heap[w.heap.size + 2]? = some z := by
  have := heap_alloc_new ((w.alloc x).alloc y) z
  rw [show ((w.alloc x).alloc y).heap.size = w.heap.size + 2 by simp] at this
  exact this
set_option maxHeartbeats 2000000 in
theorem div_ok (a b : V) (ha : I64 a.n) (hb : I64 b.n) (h1 : a.k = 1) (h2 : b.k = 1) (h0 : b.n ≠ 0) (hm : b.n ≠ -1) : Gives 241 #[vV a, vV b] (vV (vDiv a b)) := by
  intro w
  unfold I64 at ha hb
  obtain ⟨ha1, ha2⟩ := ha
  obtain ⟨hb1, hb2⟩ := hb
  have hr : -9223372036854775808 ≤ a.n.tdiv b.n ∧ a.n.tdiv b.n ≤ 9223372036854775807 := by
    have h3 : (a.n.tdiv b.n).natAbs ≤ a.n.natAbs := by rw [Int.natAbs_tdiv]; exact Nat.div_le_self _ _
    have h4 : a.n.tdiv b.n ≠ 9223372036854775808 := by
      intro e
      have h5 : a.n = -9223372036854775808 := by rw [e] at h3; omega
      have h6 := Int.mul_tdiv_add_tmod a.n b.n
      rw [e] at h6
      have h7 : (a.n.tmod b.n).natAbs < b.n.natAbs := by rw [Int.natAbs_tmod]; exact Nat.mod_lt _ (by omega)
      omega
    omega
  have HF : Hid (vDiv a b = vI (a.n.tdiv b.n)) := by
    unfold Hid vDiv
    rw [if_pos ⟨h1, h2⟩, if_neg h0]
    unfold vNum inR
    rw [if_pos (decide_eq_true hr)]
  have hw : IntKind.i64.wrap (a.n.tdiv b.n) = a.n.tdiv b.n := by rw [IntKind.wrap_i64]; omega
  have hw2 : wrap64 (a.n.tdiv b.n) = a.n.tdiv b.n := by unfold wrap64; omega
  have p' : (b.n == 0) = false := by simpa using h0
  have q' : (b.n == -1) = false := by simpa using hm
  obtain ⟨q, hq⟩ : ∃ q, a.n.tdiv b.n = q := ⟨_, rfl⟩
  rw [hq] at hw hw2 HF
  clear hr
  unfold vV
  go_enter Tryz.func241, Tryz.ntmps241
  go_wp2
  go_returns
  rw [HF.out]
  refine ⟨?_, by repeat (first | exact Below.refl _ _ | refine bal ?_ _)⟩
  first | rfl | (simp only [hq, hw, hw2]; rfl)
set_option maxHeartbeats 2000000 in
theorem div_zero (a b : V) (h1 : a.k = 1) (h2 : b.k = 1) (h0 : b.n = 0) : Gives 241 #[vV a, vV b] (vV (vDiv a b)) := by
  intro w
  have HF : Hid (vDiv a b = vE 2) := by unfold Hid vDiv; rw [if_pos ⟨h1, h2⟩, if_pos h0]
  unfold vV
  go_enter Tryz.func241, Tryz.ntmps241
  go_wp2
  go_returns
  rw [HF.out]
  exact ⟨rfl, by repeat (first | exact Below.refl _ _ | refine bal ?_ _)⟩
set_option maxHeartbeats 2000000 in
theorem div_type (a b : V) (h1 : ¬ (a.k = 1 ∧ b.k = 1)) : Gives 241 #[vV a, vV b] (vV (vDiv a b)) := by
  intro w
  have HF : Hid (vDiv a b = vE 4) := by unfold Hid vDiv; rw [if_neg h1]
  unfold vV
  by_cases a1 : a.k = 1
  · have b1 : b.k ≠ 1 := fun h => h1 ⟨a1, h⟩
    have b1' : (b.k == 1) = false := by simpa using b1
    go_enter Tryz.func241, Tryz.ntmps241
    go_wp2
    go_returns
    rw [HF.out]
    exact ⟨rfl, by repeat (first | exact Below.refl _ _ | refine bal ?_ _)⟩
  · have a1' : (a.k == 1) = false := by simpa using a1
    go_enter Tryz.func241, Tryz.ntmps241
    go_wp2
    go_returns
    rw [HF.out]
    exact ⟨rfl, by repeat (first | exact Below.refl _ _ | refine bal ?_ _)⟩
set_option maxHeartbeats 2000000 in
theorem div_neg (a b : V) (ha : I64 a.n) (h1 : a.k = 1) (h2 : b.k = 1) (hm : b.n = -1) : Gives 241 #[vV a, vV b] (vV (vDiv a b)) := by
  intro w
  have HF : Hid (vDiv a b = vNeg a) := by
    unfold Hid vDiv vNeg vSub
    rw [if_pos ⟨h1, h2⟩, if_neg (by omega), if_pos ⟨rfl, h1⟩, hm, Int.tdiv_neg, Int.tdiv_one]
    show vNum (-a.n) = vNum (0 - a.n)
    rw [Int.zero_sub]
  have HBo : Hid (Gives 255 #[.int .i64 1, vV a, vV b] (.bool true)) := both_w a b h1 h2
  have HN : Hid (Gives 222 #[vV a] (vV (vNeg a))) := neg_w a ha
  obtain ⟨r, hr⟩ : ∃ r, vNeg a = r := ⟨_, rfl⟩
  rw [hr] at HN HF
  have p' : (b.n == 0) = false := by simpa using (by omega : b.n ≠ 0)
  have q' : (b.n == -1) = true := by simpa using hm
  clear hr h1 h2 hm ha
  unfold vV at HBo HN ⊢
  go_enter Tryz.func241, Tryz.ntmps241
  go_wp2_with fail
  refine (HBo.out _).mono ?_
  rintro e w1 ⟨rfl, hb1⟩
  obtain ⟨x0, x1, x2, _⟩ := keep3 (by simp; omega) hb1 (al0 w _ _ _)
  obtain ⟨y0, y1, y2, _⟩ := keep3 (by simp) hb1 (al1 w _ _ _)
  go_wp2_with fail
  refine (HN.out _).mono ?_
  rintro e w2 ⟨rfl, hb2⟩
  have HR : Hid (w2.heap[w.heap.size + 2]? = some (.cells #[.int .i64 0, .int .i64 0, .string ⟨#[]⟩] 52 (0, 0))) := by
    unfold Hid
    have h3 := hb1.size
    simp at h3
    rw [hb2.block _ (by omega), hb1.block _ (by simp)]
    exact al2 w _ _ _
  obtain ⟨z0, z1, z2, z3, z4, z5⟩ := box3 rfl HR.out
  have HB : Hid (Below w.heap.size w w2) := ((bl3 w _ _ _).trans (hb1.mono (by simp; omega))).trans (hb2.mono (by have := hb1.size; simp at this; omega))
  clear hb1 hb2
  go_wp2_with fail
  refine bodyPost_ret (results_cell1 rfl _ _ _ ⟨w.heap.size + 2, 0, none⟩ _ _ rfl (load52 (rset (rset (rset HR.out))) rfl)) rfl ?_
  rw [HF.out]
  exact ⟨rfl, by repeat (first | exact HB.out | refine Below.setCell ?_ (by dsimp only; omega) _)⟩
theorem div_w (a b : V) (ha : I64 a.n) (hb : I64 b.n) : Gives 241 #[vV a, vV b] (vV (vDiv a b)) := by
  by_cases h : a.k = 1 ∧ b.k = 1
  · by_cases h0 : b.n = 0
    · exact div_zero a b h.1 h.2 h0
    · by_cases hm : b.n = -1
      · exact div_neg a b ha h.1 h.2 hm
      · exact div_ok a b ha hb h.1 h.2 h0 hm
  · exact div_type a b h
theorem comb_go (n fn : Nat) (a b r : V) (hg : Gives fn #[vV a, vV b] (vV r)) (hn : (n = 5 ∧ fn = 239) ∨ (n = 6 ∧ fn = 238) ∨ (n = 7 ∧ fn = 240) ∨ (n = 8 ∧ fn = 241) ∨ (n = 9 ∧ fn = 242) ∨ (n = 10 ∧ fn = 243) ∨ (n = 11 ∧ fn = 244)) : Gives 227 #[.int .i64 n, vV a, vV b] (vV r) := by
  intro w
  have HG : Hid (Gives fn #[vV a, vV b] (vV r)) := hg
  clear hg
  unfold vV at HG ⊢
  rcases hn with ⟨rfl, rfl⟩ | ⟨rfl, rfl⟩ | ⟨rfl, rfl⟩ | ⟨rfl, rfl⟩ | ⟨rfl, rfl⟩ | ⟨rfl, rfl⟩ | ⟨rfl, rfl⟩
  all_goals
    go_enter Tryz.func227, Tryz.ntmps227
    go_wp2_with fail
    refine (HG.out _).mono ?_
    rintro e w2 ⟨rfl, hb2⟩
    have HR : Hid (w2.heap[w.heap.size + 2]? = some (.cells #[.int .i64 0, .int .i64 0, .string ⟨#[]⟩] 52 (0, 0))) := by
      unfold Hid
      rw [hb2.block _ (by simp)]
      exact al2 w _ _ _
    obtain ⟨z0, z1, z2, z3, z4, z5⟩ := box3 rfl HR.out
    have HB : Hid (Below w.heap.size w w2) := (bl3 w _ _ _).trans (hb2.mono (by simp; omega))
    clear hb2
    go_wp2_with fail
    refine bodyPost_ret (results_cell1 rfl _ _ _ ⟨w.heap.size + 2, 0, none⟩ _ _ rfl (load52 (rset (rset (rset HR.out))) rfl)) rfl ?_
    exact ⟨rfl, by repeat (first | exact HB.out | refine Below.setCell ?_ (by dsimp only; omega) _)⟩
theorem comb_w (n : Nat) (h5 : 5 ≤ n) (h11 : n ≤ 11) (a b : V) (ha : OKV a) (hb : OKV b) : Gives 227 #[.int .i64 n, vV a, vV b] (vV (comb n a b)) := by
  unfold comb
  have hn : n = 5 ∨ n = 6 ∨ n = 7 ∨ n = 8 ∨ n = 9 ∨ n = 10 ∨ n = 11 := by omega
  rcases hn with rfl | rfl | rfl | rfl | rfl | rfl | rfl
  · exact comb_go 5 239 a b _ (add_w a b ha.1 hb.1) (by simp)
  · exact comb_go 6 238 a b _ (sub_w a b ha.1 hb.1) (by simp)
  · exact comb_go 7 240 a b _ (mul_w a b ha.1 hb.1) (by simp)
  · exact comb_go 8 241 a b _ (div_w a b ha.1 hb.1) (by simp)
  · exact comb_go 9 242 a b _ (join_w a b ha.2.2.2 hb.2.2.2) (by simp)
  · exact comb_go 10 243 a b _ (eq_w a b) (by simp)
  · exact comb_go 11 244 a b _ (less_w a b) (by simp)
end Go.Proofs.YtlpmmmmniojflaaGreatDoor
/- The machine in memory: its steps. -/
set_option linter.unusedVariables false
set_option linter.unusedSimpArgs false
namespace Go.Proofs.YtlpmmmmniojflaaGreatDoor
open Go.RowKit
def insV (op : Int) (v : V) (c t : Nat) : Value := .agg #[.int .i64 op, .int .i64 v.k, .int .i64 v.n, .string v.s, .int .i64 c, .int .i64 t]
section
variable {w w' W : World} {own own' : Nat → Nat} {b o cv cg st : Nat} {m : Mc} {nd : Nd}
theorem mInc (h : MR w own b o cv cg m st nd) (q : Int) (p : Nat) (hq : q = p) (z : Obj) :
    MR ((w.setCell ⟨b, o + 1, none⟩ (.int .i64 q)).alloc z) (ext own w.heap.size) b o cv cg { m with at' := p } st nd ∧
    Chg own (mC cv cg) b o (o + 7) w ((w.setCell ⟨b, o + 1, none⟩ (.int .i64 q)).alloc z) ∧ ((w.setCell ⟨b, o + 1, none⟩ (.int .i64 q)).alloc z).heap[w.heap.size]? = some z := by
  subst hq
  have hb := h.blk.lt
  have g : Chg own (fun _ => False) b (o + 1) (o + 5) w ((w.setCell ⟨b, o + 1, none⟩ (.int .i64 p)).alloc z) := ((Chg.refl _ _ _ _ _ _).put (by omega) (by omega) _).al hb z
  have hB := h.blk
  have hC : Chg own (mC cv cg) b o (o + 7) w ((w.setCell ⟨b, o + 1, none⟩ (.int .i64 p)).alloc z) := g.mono (fun _ h => h.elim) (by omega) (by omega)
  refine ⟨?_, hC, ?_⟩
  · exact { blk := h.blk.chg g, code := h.codeChg g (by omega) (fun h => h) ext_old, at' := al (hB.cset (by omega) _) _, st := al (by rw [hB.coff (by omega)]; exact h.st) _, nc := al (by rw [hB.coff (by omega)]; exact h.nc) _, na := al (by rw [hB.coff (by omega)]; exact h.na) _, vals := h.vals.chg h.blk g (by omega) (fun h => h) ext_old, gds := h.gds.chg h.blk g (by omega) (fun h => h) ext_old }
  · have := heap_alloc_new (w.setCell ⟨b, o + 1, none⟩ (.int .i64 p)) z
    rw [show (w.setCell ⟨b, o + 1, none⟩ (.int .i64 p)).heap.size = w.heap.size by simp [World.setCell]] at this
    exact this
theorem MStep.of (e2 : ∀ k, k < w.heap.size → own' k = own k) (h : MR W own' b o cv cg m st nd) (g : Chg own (mC cv cg) b o (o + 7) w W) : MStep w own b o cv cg W m st nd := ⟨own', e2, h, g⟩
end
set_option maxHeartbeats 2000000 in
theorem step_put (w : World) (own : Nat → Nat) (b o cv cg : Nat) (m : Mc) (st : Nat) (nd : Nd) (v : V) (c t : Nat) (hC : Hid (Cols cv cg)) (hM : Hid (MR w own b o cv cg m st nd)) (hn : Hid (m.vals.length ≤ 100000)) (hp : m.at' ≤ 100000) :
    Calls Tryz.prog 201 #[.pointer (some ⟨b, o, none⟩), insV 0 v c t] w fun e w' => e = .returned (.tuple #[]) ∧ Hid (MStep w own b o cv cg w' (({ m with at' := m.at' + 1 } : Mc).push v) st nd) := by
  have hat := al hM.out.at'
  have hfz := afz (hM.out.blk.frozen (o + 1)) hM.out.blk.lt
  have hb := hM.out.blk.lt
  have n1 : b ≠ w.heap.size := by omega
  have n2 : w.heap.size ≠ b := by omega
  have hw1 : wrap64 ((m.at' : Int) + 1) = ((m.at' + 1 : Nat) : Int) := by unfold wrap64; omega
  have hw2 : IntKind.i64.wrap ((m.at' : Int) + 1) = ((m.at' + 1 : Nat) : Int) := by rw [IntKind.wrap_i64]; omega
  have HI' : Hid _ := fun z => mInc hM.out ((m.at' : Int) + 1) (m.at' + 1) (by omega) z
  clear hp
  unfold insV
  go_enter Tryz.func201, Tryz.ntmps201
  go_wp2_with fail
  obtain ⟨M1, G1, B1⟩ := HI'.out (Obj.cells #[Value.int IntKind.i64 0, Value.int IntKind.i64 v.k, Value.int IntKind.i64 v.n, Value.string v.s, Value.int IntKind.i64 c, Value.int IntKind.i64 t] 303)
  refine (mput _ _ b o cv cg _ st nd v hC M1 hn.out).mono ?_
  rintro e w2 ⟨rfl, h2⟩
  have HF : Hid _ := MStep.comp ext_old G1 h2.out
  clear h2 M1 G1 B1
  go_wp2_with fail
  refine bodyPost_end (results_none rfl _ _ _) rfl ?_
  exact ⟨rfl, HF⟩
set_option maxHeartbeats 2000000 in
theorem step_read1 (w : World) (own : Nat → Nat) (b o cv cg : Nat) (m : Mc) (st : Nat) (nd : Nd) (v : V) (c t : Nat) (hC : Hid (Cols cv cg)) (hM : Hid (MR w own b o cv cg m st nd))  (hp : m.at' ≤ 100000) :
    Calls Tryz.prog 201 #[.pointer (some ⟨b, o, none⟩), insV 1 v c t] w fun e w' => e = .returned (.tuple #[]) ∧ Hid (MStep w own b o cv cg w' { m with at' := m.at' + 1 } 1 ⟨c, false⟩) := by
  have hat := al hM.out.at'
  have hfz := afz (hM.out.blk.frozen (o + 1)) hM.out.blk.lt
  have hb := hM.out.blk.lt
  have n1 : b ≠ w.heap.size := by omega
  have n2 : w.heap.size ≠ b := by omega
  have hw1 : wrap64 ((m.at' : Int) + 1) = ((m.at' + 1 : Nat) : Int) := by unfold wrap64; omega
  have hw2 : IntKind.i64.wrap ((m.at' : Int) + 1) = ((m.at' + 1 : Nat) : Int) := by rw [IntKind.wrap_i64]; omega
  have HI' : Hid _ := fun z => mInc hM.out ((m.at' : Int) + 1) (m.at' + 1) (by omega) z
  clear hp
  unfold insV
  go_enter Tryz.func201, Tryz.ntmps201
  go_wp2_with fail
  obtain ⟨M1, G1, B1⟩ := HI'.out (Obj.cells #[Value.int IntKind.i64 1, Value.int IntKind.i64 v.k, Value.int IntKind.i64 v.n, Value.string v.s, Value.int IntKind.i64 c, Value.int IntKind.i64 t] 303)
  refine (mread _ _ b o cv cg _ st nd ⟨c, false⟩ hC M1).mono ?_
  rintro e w2 ⟨rfl, h2⟩
  have HF : Hid _ := MStep.comp ext_old G1 h2.out
  clear h2 M1 G1 B1
  go_wp2_with fail
  refine bodyPost_end (results_none rfl _ _ _) rfl ?_
  exact ⟨rfl, HF⟩
set_option maxHeartbeats 2000000 in
theorem step_read2 (w : World) (own : Nat → Nat) (b o cv cg : Nat) (m : Mc) (st : Nat) (nd : Nd) (v : V) (c t : Nat) (hC : Hid (Cols cv cg)) (hM : Hid (MR w own b o cv cg m st nd))  (hp : m.at' ≤ 100000) :
    Calls Tryz.prog 201 #[.pointer (some ⟨b, o, none⟩), insV 2 v c t] w fun e w' => e = .returned (.tuple #[]) ∧ Hid (MStep w own b o cv cg w' { m with at' := m.at' + 1 } 1 ⟨c, true⟩) := by
  have hat := al hM.out.at'
  have hfz := afz (hM.out.blk.frozen (o + 1)) hM.out.blk.lt
  have hb := hM.out.blk.lt
  have n1 : b ≠ w.heap.size := by omega
  have n2 : w.heap.size ≠ b := by omega
  have hw1 : wrap64 ((m.at' : Int) + 1) = ((m.at' + 1 : Nat) : Int) := by unfold wrap64; omega
  have hw2 : IntKind.i64.wrap ((m.at' : Int) + 1) = ((m.at' + 1 : Nat) : Int) := by rw [IntKind.wrap_i64]; omega
  have HI' : Hid _ := fun z => mInc hM.out ((m.at' : Int) + 1) (m.at' + 1) (by omega) z
  clear hp
  unfold insV
  go_enter Tryz.func201, Tryz.ntmps201
  go_wp2_with fail
  obtain ⟨M1, G1, B1⟩ := HI'.out (Obj.cells #[Value.int IntKind.i64 2, Value.int IntKind.i64 v.k, Value.int IntKind.i64 v.n, Value.string v.s, Value.int IntKind.i64 c, Value.int IntKind.i64 t] 303)
  refine (mread _ _ b o cv cg _ st nd ⟨c, true⟩ hC M1).mono ?_
  rintro e w2 ⟨rfl, h2⟩
  have HF : Hid _ := MStep.comp ext_old G1 h2.out
  clear h2 M1 G1 B1
  go_wp2_with fail
  refine bodyPost_end (results_none rfl _ _ _) rfl ?_
  exact ⟨rfl, HF⟩
set_option maxHeartbeats 2000000 in
theorem step_named (w : World) (own : Nat → Nat) (b o cv cg : Nat) (m : Mc) (st : Nat) (nd : Nd) (v : V) (c t : Nat) (hC : Hid (Cols cv cg)) (hM : Hid (MR w own b o cv cg m st nd)) (m2 : Mc) (st2 : Nat) (nd2 : Nd) (hK : Hid (∀ W own1, MR W own1 b o cv cg { m with at' := m.at' + 1 } st nd → Calls Tryz.prog 221 #[.pointer (some ⟨b, o, none⟩)] W fun e w' => e = .returned (.tuple #[]) ∧ Hid (MStep W own1 b o cv cg w' m2 st2 nd2))) (hp : m.at' ≤ 100000) :
    Calls Tryz.prog 201 #[.pointer (some ⟨b, o, none⟩), insV 3 v c t] w fun e w' => e = .returned (.tuple #[]) ∧ Hid (MStep w own b o cv cg w' m2 st2 nd2) := by
  have hat := al hM.out.at'
  have hfz := afz (hM.out.blk.frozen (o + 1)) hM.out.blk.lt
  have hb := hM.out.blk.lt
  have n1 : b ≠ w.heap.size := by omega
  have n2 : w.heap.size ≠ b := by omega
  have hw1 : wrap64 ((m.at' : Int) + 1) = ((m.at' + 1 : Nat) : Int) := by unfold wrap64; omega
  have hw2 : IntKind.i64.wrap ((m.at' : Int) + 1) = ((m.at' + 1 : Nat) : Int) := by rw [IntKind.wrap_i64]; omega
  have HI' : Hid _ := fun z => mInc hM.out ((m.at' : Int) + 1) (m.at' + 1) (by omega) z
  clear hp
  unfold insV
  go_enter Tryz.func201, Tryz.ntmps201
  go_wp2_with fail
  obtain ⟨M1, G1, B1⟩ := HI'.out (Obj.cells #[Value.int IntKind.i64 3, Value.int IntKind.i64 v.k, Value.int IntKind.i64 v.n, Value.string v.s, Value.int IntKind.i64 c, Value.int IntKind.i64 t] 303)
  refine (hK.out _ _ M1).mono ?_
  rintro e w2 ⟨rfl, h2⟩
  have HF : Hid _ := MStep.comp ext_old G1 h2.out
  clear h2 M1 G1 B1
  go_wp2_with fail
  refine bodyPost_end (results_none rfl _ _ _) rfl ?_
  exact ⟨rfl, HF⟩
set_option maxHeartbeats 2000000 in
theorem step_tally (w : World) (own : Nat → Nat) (b o cv cg : Nat) (m : Mc) (st : Nat) (nd : Nd) (v : V) (c t : Nat) (hC : Hid (Cols cv cg)) (hM : Hid (MR w own b o cv cg m st nd)) (m2 : Mc) (st2 : Nat) (nd2 : Nd) (hK : Hid (∀ W own1, MR W own1 b o cv cg { m with at' := m.at' + 1 } st nd → Calls Tryz.prog 224 #[.pointer (some ⟨b, o, none⟩)] W fun e w' => e = .returned (.tuple #[]) ∧ Hid (MStep W own1 b o cv cg w' m2 st2 nd2))) (hp : m.at' ≤ 100000) :
    Calls Tryz.prog 201 #[.pointer (some ⟨b, o, none⟩), insV 12 v c t] w fun e w' => e = .returned (.tuple #[]) ∧ Hid (MStep w own b o cv cg w' m2 st2 nd2) := by
  have hat := al hM.out.at'
  have hfz := afz (hM.out.blk.frozen (o + 1)) hM.out.blk.lt
  have hb := hM.out.blk.lt
  have n1 : b ≠ w.heap.size := by omega
  have n2 : w.heap.size ≠ b := by omega
  have hw1 : wrap64 ((m.at' : Int) + 1) = ((m.at' + 1 : Nat) : Int) := by unfold wrap64; omega
  have hw2 : IntKind.i64.wrap ((m.at' : Int) + 1) = ((m.at' + 1 : Nat) : Int) := by rw [IntKind.wrap_i64]; omega
  have HI' : Hid _ := fun z => mInc hM.out ((m.at' : Int) + 1) (m.at' + 1) (by omega) z
  clear hp
  unfold insV
  go_enter Tryz.func201, Tryz.ntmps201
  go_wp2_with fail
  obtain ⟨M1, G1, B1⟩ := HI'.out (Obj.cells #[Value.int IntKind.i64 12, Value.int IntKind.i64 v.k, Value.int IntKind.i64 v.n, Value.string v.s, Value.int IntKind.i64 c, Value.int IntKind.i64 t] 303)
  refine (hK.out _ _ M1).mono ?_
  rintro e w2 ⟨rfl, h2⟩
  have HF : Hid _ := MStep.comp ext_old G1 h2.out
  clear h2 M1 G1 B1
  go_wp2_with fail
  refine bodyPost_end (results_none rfl _ _ _) rfl ?_
  exact ⟨rfl, HF⟩
set_option maxHeartbeats 2000000 in
theorem step_choose (w : World) (own : Nat → Nat) (b o cv cg : Nat) (m : Mc) (st : Nat) (nd : Nd) (v : V) (c t : Nat) (hC : Hid (Cols cv cg)) (hM : Hid (MR w own b o cv cg m st nd)) (m2 : Mc) (st2 : Nat) (nd2 : Nd) (hK : Hid (∀ W own1, MR W own1 b o cv cg { m with at' := m.at' + 1 } st nd → Calls Tryz.prog 225 #[.pointer (some ⟨b, o, none⟩), .int .i64 t] W fun e w' => e = .returned (.tuple #[]) ∧ Hid (MStep W own1 b o cv cg w' m2 st2 nd2))) (hp : m.at' ≤ 100000) :
    Calls Tryz.prog 201 #[.pointer (some ⟨b, o, none⟩), insV 13 v c t] w fun e w' => e = .returned (.tuple #[]) ∧ Hid (MStep w own b o cv cg w' m2 st2 nd2) := by
  have hat := al hM.out.at'
  have hfz := afz (hM.out.blk.frozen (o + 1)) hM.out.blk.lt
  have hb := hM.out.blk.lt
  have n1 : b ≠ w.heap.size := by omega
  have n2 : w.heap.size ≠ b := by omega
  have hw1 : wrap64 ((m.at' : Int) + 1) = ((m.at' + 1 : Nat) : Int) := by unfold wrap64; omega
  have hw2 : IntKind.i64.wrap ((m.at' : Int) + 1) = ((m.at' + 1 : Nat) : Int) := by rw [IntKind.wrap_i64]; omega
  have HI' : Hid _ := fun z => mInc hM.out ((m.at' : Int) + 1) (m.at' + 1) (by omega) z
  clear hp
  unfold insV
  go_enter Tryz.func201, Tryz.ntmps201
  go_wp2_with fail
  obtain ⟨M1, G1, B1⟩ := HI'.out (Obj.cells #[Value.int IntKind.i64 13, Value.int IntKind.i64 v.k, Value.int IntKind.i64 v.n, Value.string v.s, Value.int IntKind.i64 c, Value.int IntKind.i64 t] 303)
  refine (hK.out _ _ M1).mono ?_
  rintro e w2 ⟨rfl, h2⟩
  have HF : Hid _ := MStep.comp ext_old G1 h2.out
  clear h2 M1 G1 B1
  go_wp2_with fail
  refine bodyPost_end (results_none rfl _ _ _) rfl ?_
  exact ⟨rfl, HF⟩
set_option maxHeartbeats 2000000 in
theorem step_neg (w : World) (own : Nat → Nat) (b o cv cg : Nat) (m : Mc) (st : Nat) (nd : Nd) (v : V) (c t : Nat) (hC : Hid (Cols cv cg)) (hM : Hid (MR w own b o cv cg m st nd)) (l : List V) (y : V) (hl : Hid (m.vals = l ++ [y])) (hn : Hid (m.vals.length ≤ 100000)) (hy : Hid (OKV y)) (hp : m.at' ≤ 100000) :
    Calls Tryz.prog 201 #[.pointer (some ⟨b, o, none⟩), insV 4 v c t] w fun e w' => e = .returned (.tuple #[]) ∧ Hid (MStep w own b o cv cg w' { m with at' := m.at' + 1, vals := l ++ [vNeg y] } st nd) := by
  have HN : Hid (Gives 222 #[vV y] (vV (vNeg y))) := neg_w y hy.out.1
  obtain ⟨r, hr⟩ : ∃ r, vNeg y = r := ⟨_, rfl⟩
  rw [hr] at HN ⊢
  clear hr
  have hat := al hM.out.at'
  have hfz := afz (hM.out.blk.frozen (o + 1)) hM.out.blk.lt
  have hb := hM.out.blk.lt
  have n1 : b ≠ w.heap.size := by omega
  have n2 : w.heap.size ≠ b := by omega
  have hw1 : wrap64 ((m.at' : Int) + 1) = ((m.at' + 1 : Nat) : Int) := by unfold wrap64; omega
  have hw2 : IntKind.i64.wrap ((m.at' : Int) + 1) = ((m.at' + 1 : Nat) : Int) := by rw [IntKind.wrap_i64]; omega
  have HI' : Hid _ := fun z => mInc hM.out ((m.at' : Int) + 1) (m.at' + 1) (by omega) z
  clear hp
  unfold insV
  go_enter Tryz.func201, Tryz.ntmps201
  go_wp2_with fail
  obtain ⟨M1, G1, B1⟩ := HI'.out (Obj.cells #[Value.int IntKind.i64 4, Value.int IntKind.i64 v.k, Value.int IntKind.i64 v.n, Value.string v.s, Value.int IntKind.i64 c, Value.int IntKind.i64 t] 303)
  have hln : Hid (l.length ≤ 100000) := by have := hn.out; rw [hl.out] at this; simp at this; unfold Hid; omega
  have G1' : Hid _ := G1
  refine (mtake _ _ b o cv cg _ st nd l y hC M1 hl.out).mono ?_
  rintro e w2 ⟨rfl, h2⟩
  have H2 : Hid (MStep w own b o cv cg w2 { m with at' := m.at' + 1, vals := l } st nd) := MStep.comp ext_old G1 h2.out
  clear h2 M1 G1 B1 HI'
  unfold vV at HN ⊢
  go_wp2_with fail
  refine (HN.out _).mono ?_
  rintro e w3 ⟨rfl, hb3⟩
  have H3 : Hid (MStep w own b o cv cg w3 { m with at' := m.at' + 1, vals := l } st nd) := H2.out.then hb3
  clear hb3
  go_wp2_with fail
  obtain ⟨own3, e3, M3, g3⟩ := H3.out
  have E3 : Hid _ := e3
  have G3 : Hid _ := g3
  have HM3 : Hid _ := M3
  clear e3 M3 g3
  refine (mput _ own3 b o cv cg { m with at' := m.at' + 1, vals := l } st nd r hC HM3 hln.out).mono ?_
  rintro e w4 ⟨rfl, h4⟩
  have HF : Hid (MStep w own b o cv cg w4 { m with at' := m.at' + 1, vals := l ++ [r] } st nd) := MStep.comp E3.out G3.out h4.out
  clear h4
  go_wp2_with fail
  refine bodyPost_end (results_none rfl _ _ _) rfl ?_
  exact ⟨rfl, HF⟩
set_option maxHeartbeats 2000000 in
theorem step_jump (w : World) (own : Nat → Nat) (b o cv cg : Nat) (m : Mc) (st : Nat) (nd : Nd) (v : V) (c t : Nat) (hC : Hid (Cols cv cg)) (hM : Hid (MR w own b o cv cg m st nd))  (hp : m.at' ≤ 100000) :
    Calls Tryz.prog 201 #[.pointer (some ⟨b, o, none⟩), insV 14 v c t] w fun e w' => e = .returned (.tuple #[]) ∧ Hid (MStep w own b o cv cg w' { m with at' := t } st nd) := by
  have hat0 := hM.out.at'
  have hfz0 := hM.out.blk.frozen (o + 1)
  have hat := al hM.out.at'
  have hfz := afz (hM.out.blk.frozen (o + 1)) hM.out.blk.lt
  have hb := hM.out.blk.lt
  have n1 : b ≠ w.heap.size := by omega
  have n2 : w.heap.size ≠ b := by omega
  have hw1 : wrap64 ((m.at' : Int) + 1) = ((m.at' + 1 : Nat) : Int) := by unfold wrap64; omega
  have hw2 : IntKind.i64.wrap ((m.at' : Int) + 1) = ((m.at' + 1 : Nat) : Int) := by rw [IntKind.wrap_i64]; omega
  have HI' : Hid _ := fun z => mInc hM.out ((m.at' : Int) + 1) (m.at' + 1) (by omega) z
  clear hp
  unfold insV
  go_enter Tryz.func201, Tryz.ntmps201
  go_wp2_with fail
  refine bodyPost_end (results_none rfl _ _ _) rfl ⟨rfl, ?_⟩
  have hB := hM.out.blk
  have hB1 := hB.set (o + 1) (.int .i64 ((m.at' : Int) + 1))
  exact MStep.state (p := t) hM.out hC.out (((((Chg.refl _ _ _ _ _ _).put (by omega) (by omega) _).put (by omega) (by omega) _)).al hb _)
    (al (hB1.cset (by omega) _) _)
    (al (by rw [hB1.coff (by omega), hB.coff (by omega)]; exact hM.out.st) _)
    (al (by rw [hB1.coff (by omega), hB.coff (by omega)]; exact hM.out.nc) _)
    (al (by rw [hB1.coff (by omega), hB.coff (by omega)]; exact hM.out.na) _)
theorem Tryz.info315 : (Tryz.prog.info? 315).map (fun i => (i.zero, i.size, i.bytes)) = some (some (.agg #[.int .i64 0, .int .i64 0]), 2, 16) := by kernel_rfl
theorem boxc {W : World} {q : Nat} {cs : Array Value} {t : TypeId} (h : W.heap[q]? = some (.cells cs t)) (j : Nat) (u : Value) (hj : cs[j]? = some u) : W.cell? ⟨q, j, none⟩ = some u := by
  rw [cell_of_row W q j cs t (0, 0) h]; exact hj
theorem guard_close {W1 W w1 : World} {own1 : Nat → Nat} {b o cv cg st : Nat} {m : Mc} {nd : Nd} {gv v1 : Value} {t n : Nat} (hM : MR W1 own1 b o cv cg m st nd) (hC : Cols cv cg) (hs : SlC W1 own1 b cg 315 2 gv m.gd.length (m.gd.flatMap gC)) (hW : Below W1.heap.size W1 W)
    (hg : W.grownBy w1 gv.ownBlock) (hob : (v1.ownBlock = gv.ownBlock ∧ gv.ownBlock ≠ none) ∨ (v1.ownBlock = some W.heap.size ∧ W.grownBy w1 none)) (hsl : Slc w1 315 2 v1 (m.gd.length + 1) (m.gd.flatMap gC ++ [.int .i64 t, .int .i64 n])) :
    MStep W1 own1 b o cv cg (w1.setCell ⟨b, o + 6, none⟩ v1) { m with gd := m.gd ++ [(t, n)] } st nd := by
  have hb := hM.blk.lt
  have hne : some b ≠ gv.ownBlock := fun e => (hs.col b e.symm).2 rfl
  obtain ⟨own', o1, o2, o3⟩ := app_close (lo := o + 6) (hi := o + 7) hs hb hW hg hob hsl (j := o + 6) (by omega) (by omega)
  refine ⟨own', o1, hM.setG hC o3 o1 ⟨v1, ?_, ?_⟩, o3.mono (fun _ h => .inr h) (by omega) (by omega)⟩
  · obtain ⟨cs, ty, k1, k2⟩ := hM.blk
    have kb : w1.heap[b]? = some (.cells cs ty (0, 0)) := by
      rw [hg.block b (Nat.lt_of_lt_of_le hb hW.size) hne, hW.block b hb]; exact k1
    rw [cell_of_row _ b (o + 6) _ ty (0, 0) (rset kb), Array.getElem?_setIfInBounds_self_of_lt (by omega)]
  · rw [List.length_append, List.flatMap_append]
    exact o2
end Go.Proofs.YtlpmmmmniojflaaGreatDoor
