/- The statement's own 'known', walked: one deeper. -/
import Derived.Test.YtiocnfambeochaaGreatDoorQ50
set_option linter.unusedVariables false
set_option linter.unusedSimpArgs false
namespace Go.Proofs.YtiocnfambeochaaGreatDoor
open Go.RowKit

theorem knPrev {m d : Nat} (h : m = d + 1) (hd : d ≤ 2) : ((m : Int) == 0) = false ∧ ¬ (m : Int) = 0 ∧ IntKind.i64.wrap ((m : Int) - 1) = (d : Int) ∧ wrap64 ((m : Int) - 1) = (d : Int) := by
  have h1 : ¬ (m : Int) = 0 := by omega
  exact ⟨by simpa using h1, h1, by rw [IntKind.wrap_i64]; omega, by unfold wrap64; omega⟩
theorem knWrap {n : Int} {d : Nat} (h : n.natAbs ≤ KB d) : IntKind.i64.wrap n = n ∧ wrap64 n = n := by
  have := KB_max d
  exact ⟨by rw [IntKind.wrap_i64]; omega, by unfold wrap64; omega⟩
theorem knOps {a b : Int} {d : Nat} (hd : d ≤ 2) (ha : a.natAbs ≤ KB d) (hb : b.natAbs ≤ KB d) : (a + b).natAbs ≤ KB (d + 1) ∧ (a - b).natAbs ≤ KB (d + 1) ∧ (a * b).natAbs ≤ KB (d + 1) := by
  obtain ⟨k1, k2, k3, k4, k5, k6⟩ := KB_sq hd
  refine ⟨by omega, by omega, ?_⟩
  rw [Int.natAbs_mul, ← k1]
  exact Nat.mul_le_mul ha hb
theorem knOne {a : Int} {d : Nat} (hd : d ≤ 2) (ha : a.natAbs ≤ KB d) : (24 + a).natAbs ≤ KB (d + 1) ∧ (-a).natAbs ≤ KB (d + 1) := by
  obtain ⟨k1, k2, k3, k4, k5, k6⟩ := KB_sq hd
  exact ⟨by omega, by omega⟩
theorem knQ {k q : Nat} (h : 1 + k = q) (hq : q ≤ 9) : IntKind.i64.wrap (1 + (k : Int)) = (q : Int) ∧ wrap64 (1 + (k : Int)) = (q : Int) := ⟨by rw [IntKind.wrap_i64]; omega, by unfold wrap64; omega⟩
theorem knQ0 {q : Nat} (h : 1 ≤ q) : ¬ q = 0 ∧ ¬ (q : Int) = 0 ∧ ((q : Int) == 0) = false := ⟨by omega, by omega, by simpa using (show ¬ q = 0 by omega)⟩
theorem knDiv {a : Int} {d q : Nat} (hd : d ≤ 2) (ha : a.natAbs ≤ KB d) : (a.tdiv (q : Int)).natAbs ≤ KB (d + 1) := by
  obtain ⟨k1, k2, k3, k4, k5, k6⟩ := KB_sq hd
  rw [Int.natAbs_tdiv]
  exact Nat.le_trans (Nat.div_le_self _ _) (Nat.le_trans ha k6)
theorem kn_keep {u : World} {b6 b4 : Nat} {s n : Value} {X : Option Obj} (hne : b6 ≠ b4) (h : u.heap[b6]? = X) : ((u.setCell ⟨b4, 0, none⟩ s).setCell ⟨b4, 1, none⟩ n).heap[b6]? = X := by
  rw [Below.heap_setCell _ _ _ _ hne, Below.heap_setCell _ _ _ _ hne]; exact h
structure KnP (w0 w : World) (fb b4 b6 : Nat) (sA : ByteArray) (nA' : Int) (f : List UInt8) (u : World) (b11 : Nat) (t : ByteArray) (n : Int) : Prop where
  s : KnS w0 w fb u b4 f
  a : u.heap[b6]? = some (.cells #[.string sA, .int .i64 nA'] 45 (0, 0))
  r : u.heap[b11]? = some (.cells #[.string t, .int .i64 n] 45 (0, 0))
  b : w.heap.size ≤ b11
  n4 : b11 ≠ b4
  n6 : b6 ≠ b11
section
variable {w0 w u u' : World} {fb b4 b6 b11 : Nat} {sA t : ByteArray} {nA' n : Int} {f : List UInt8}
theorem KnP.start (h : KnS w0 w fb u b4 f) (ha : u.heap[b6]? = some (.cells #[.string sA, .int .i64 nA'] 45 (0, 0))) : KnP w0 w fb b4 b6 sA nA' f (u.alloc (.cells #[.string ⟨#[]⟩, .int .i64 0] 45)) u.heap.size ⟨#[]⟩ 0 := by
  have hl := (Array.getElem?_eq_some_iff.1 ha).1
  obtain ⟨_, _, hq⟩ := h.q
  have hl4 := (Array.getElem?_eq_some_iff.1 hq).1
  exact ⟨h.below (bl1 _ _), by rw [Below.heap_alloc _ _ _ hl]; exact ha, rnew _ _ _, h.gr.size, Nat.ne_of_gt hl4, Nat.ne_of_lt hl⟩
theorem KnS.set (h : KnS w0 w fb u b4 f) (hb : w.heap.size ≤ b11) (hne : b11 ≠ b4) (j : Nat) (v : Value) : KnS w0 w fb (u.setCell ⟨b11, j, none⟩ v) b4 f := by
  obtain ⟨a, b, hq⟩ := h.q
  refine ⟨gb_new h.gr (gb_setCell u b11 j v) (fun g hg => by cases hg; exact hb), h.fd.kept (Below.heap_setCell _ _ _ _ (fun e => by have e : fb = b11 := e; have := h.lt; omega)), ⟨a, b, by rw [Below.heap_setCell _ _ _ _ hne.symm]; exact hq⟩, h.b, h.lt⟩
theorem KnP.set0 (h : KnP w0 w fb b4 b6 sA nA' f u b11 t n) (t' : ByteArray) : KnP w0 w fb b4 b6 sA nA' f (u.setCell ⟨b11, 0, none⟩ (.string t')) b11 t' n :=
  ⟨h.s.set h.b h.n4 0 _, by rw [Below.heap_setCell _ _ _ _ h.n6]; exact h.a, rset h.r, h.b, h.n4, h.n6⟩
theorem KnP.set1 (h : KnP w0 w fb b4 b6 sA nA' f u b11 t n) (n' : Int) : KnP w0 w fb b4 b6 sA nA' f (u.setCell ⟨b11, 1, none⟩ (.int .i64 n')) b11 t n' :=
  ⟨h.s.set h.b h.n4 1 _, by rw [Below.heap_setCell _ _ _ _ h.n6]; exact h.a, rset h.r, h.b, h.n4, h.n6⟩
theorem KnP.below (h : KnP w0 w fb b4 b6 sA nA' f u b11 t n) (hb : Below u.heap.size u u') : KnP w0 w fb b4 b6 sA nA' f u' b11 t n :=
  ⟨h.s.below hb, by rw [hb.block _ (Array.getElem?_eq_some_iff.1 h.a).1]; exact h.a, by rw [hb.block _ (Array.getElem?_eq_some_iff.1 h.r).1]; exact h.r, h.b, h.n4, h.n6⟩
end
theorem kn_ge {u w : World} {fb : Nat} (h : w.grownBy u (some fb)) {b : Nat} (hb : u.heap.size ≤ b) (hf : fb < w.heap.size) : b ≠ fb := by have := h.size; omega
set_option maxRecDepth 100000 in
set_option maxHeartbeats 8000000 in
theorem kn_succ (deep : Nat) (hd0 : deep ≤ 2) (hK0 : KnW deep) : KnW (deep + 1) := by
  intro w0 w fb fd hA0 hb0 hF0
  obtain ⟨m, hm⟩ : ∃ m, m = deep + 1 := ⟨_, rfl⟩
  rw [← hm]
  obtain ⟨p1, p2, p3, p4⟩ := knPrev hm hd0
  have HM : Hid (m = deep + 1) := hm
  have HD : Hid (deep ≤ 2) := hd0
  have HK : Hid (KnW deep) := hK0
  have hA : Hid (Amb w0) := hA0
  have hb : Hid (Below w0.heap.size w0 w) := hb0
  have HL : Hid (w0.heap.size ≤ fb) := hF0.low
  have HFW : Hid (fb < w.heap.size) := hF0.lt
  have H0 : Hid (KnS w0 w fb (w.alloc (.cells #[.string ⟨#[]⟩, .int .i64 0] 45)) w.heap.size fd) := KnS.start hF0
  clear hA0 hb0 hF0 hK0 hd0 hm
  go_enter Tryz.func25, Tryz.ntmps25
  go_wp2_with fail
  generalize w.alloc (.cells #[.string ⟨#[]⟩, .int .i64 0] 45) = u0 at *
  generalize hb4 : w.heap.size = b4 at H0 ⊢
  refine (HK.out w0 u0 fb fd hA.out (H0.out.amb hb.out HL.out) H0.out.fd).mono ?_
  rintro e u1 ⟨rfl, g1, f1⟩
  have H1 : Hid (KnS w0 w fb u1 b4 (knG deep fd).2) := H0.out.next g1 f1
  clear g1 f1 H0
  obtain ⟨R, hR⟩ : ∃ R, knG deep fd = R := ⟨_, rfl⟩
  have HR : Hid (knG deep fd = R) := hR
  have HBN : Hid (R.1.n.natAbs ≤ KB deep) := by unfold Hid; rw [← hR]; exact kn_bd (Nat.le_succ_of_le HD.out) fd
  have HLN : Hid ((rnd R.1.g).length ≤ 1000) := by unfold Hid; rw [← hR]; exact kn_small (Nat.le_succ_of_le HD.out) fd
  rw [hR] at H1
  rw [hR]
  clear hR
  obtain ⟨sA, hsA⟩ : ∃ s : ByteArray, ⟨(rnd R.1.g).toArray⟩ = s := ⟨_, rfl⟩
  have HSA : Hid (⟨(rnd R.1.g).toArray⟩ = sA) := hsA
  rw [hsA]
  clear hsA p1 p2
  go_wp2_with fail
  have HA6 : Hid (KnA (u1.alloc (.cells #[.string sA, .int .i64 R.1.n] 45)) u1.heap.size sA R.1.n) := rnew _ _ _
  have H2 : Hid (KnS w0 w fb (u1.alloc (.cells #[.string sA, .int .i64 R.1.n] 45)) b4 R.2) := H1.out.below (bl1 _ _)
  have HN6 : Hid (u1.heap.size ≠ fb) := kn_ge H1.out.gr (Nat.le_refl _) HFW.out
  have HN64 : Hid (u1.heap.size ≠ b4) := by
    obtain ⟨_, _, hq⟩ := H1.out.q
    exact Nat.ne_of_gt (Array.getElem?_eq_some_iff.1 hq).1
  clear H1
  generalize u1.alloc (.cells #[.string sA, .int .i64 R.1.n] 45) = u2 at *
  generalize u1.heap.size = b6 at *
  refine (next_any 8 (by omega) (by omega) _ w0.heap.size fb R.2 H2.out.fd).mono ?_
  rintro e u3 ⟨rfl, g3, f3⟩
  have H3 : Hid (KnS w0 w fb u3 b4 (nx 8 R.2).2) := H2.out.next g3 f3
  have HA7 : Hid (KnA u3 b6 sA R.1.n) := HA6.out.next g3 HN6.out
  clear g3 f3 H2 HA6
  obtain ⟨s, hs⟩ : ∃ s, (nx 8 R.2).1 = s := ⟨_, rfl⟩
  have HS : Hid ((nx 8 R.2).1 = s) := hs
  have hs8 : s < 8 := by rw [← hs]; exact nx_lt 8 (by omega) _
  rw [hs]
  clear hs
  have hs9 : s = 0 ∨ s = 1 ∨ s = 2 ∨ s = 3 ∨ s = 4 ∨ s = 5 ∨ s = 6 ∨ s = 7 := by omega
  clear hs8
  rcases hs9 with rfl | rfl | rfl | rfl | rfl | rfl | rfl | rfl
  · skip
    obtain ⟨B, hB⟩ : ∃ B, knG deep (nx 8 R.2).2 = B := ⟨_, rfl⟩
    have HB : Hid (knG deep (nx 8 R.2).2 = B) := hB
    have hbn : B.1.n.natAbs ≤ KB deep := by rw [← hB]; exact kn_bd (Nat.le_succ_of_le HD.out) _
    have hbl : (rnd B.1.g).length ≤ 1000 := by rw [← hB]; exact kn_small (Nat.le_succ_of_le HD.out) _
    have HE : Hid (knG (deep + 1) fd = (⟨tOpen :: ((R.1.g ++ tOp 1 :: B.1.g) ++ [tClose]), binA 6 R.1.d B.1.d, R.1.n - B.1.n⟩, B.2)) := by
      unfold Hid
      rw [knG]
      simp only [HR.out]
      rw [if_pos HS.out]
      rw [hB]
    obtain ⟨o1, o2, o3⟩ := knOps HD.out HBN.out hbn
    obtain ⟨n1, n2⟩ := knWrap o2
    obtain ⟨sB, hsB⟩ : ∃ s : ByteArray, ⟨(rnd B.1.g).toArray⟩ = s := ⟨_, rfl⟩
    obtain ⟨t1, e1⟩ : ∃ s : ByteArray, ⟨([40] ++ rnd R.1.g).toArray⟩ = s := ⟨_, rfl⟩
    obtain ⟨t2, e2⟩ : ∃ s : ByteArray, ⟨([40] ++ rnd R.1.g ++ [32, 45, 32]).toArray⟩ = s := ⟨_, rfl⟩
    obtain ⟨t3, e3⟩ : ∃ s : ByteArray, ⟨([40] ++ rnd R.1.g ++ [32, 45, 32] ++ rnd B.1.g).toArray⟩ = s := ⟨_, rfl⟩
    obtain ⟨t4, e4⟩ : ∃ s : ByteArray, ⟨([40] ++ rnd R.1.g ++ [32, 45, 32] ++ rnd B.1.g ++ [41]).toArray⟩ = s := ⟨_, rfl⟩
    have hal := HLN.out
    have k1 := cats (P := Tryz.prog) [40] (rnd R.1.g) (by simp only [List.length_append, List.length_cons, List.length_nil]; omega) (by omega)
    have k2 := cats (P := Tryz.prog) ([40] ++ rnd R.1.g) [32, 45, 32] (by simp only [List.length_append, List.length_cons, List.length_nil]; omega) (by decide)
    have k3 := cats (P := Tryz.prog) ([40] ++ rnd R.1.g ++ [32, 45, 32]) (rnd B.1.g) (by simp only [List.length_append, List.length_cons, List.length_nil]; omega) (by omega)
    have k4 := cats (P := Tryz.prog) ([40] ++ rnd R.1.g ++ [32, 45, 32] ++ rnd B.1.g) [41] (by simp only [List.length_append, List.length_cons, List.length_nil]; omega) (by decide)
    rw [HSA.out, e1] at k1
    rw [e1, e2] at k2
    rw [e2, hsB, e3] at k3
    rw [e3, e4] at k4
    have HT4 : Hid (⟨([40] ++ rnd R.1.g ++ [32, 45, 32] ++ rnd B.1.g ++ [41]).toArray⟩ = t4) := e4
    have HSB : Hid (⟨(rnd B.1.g).toArray⟩ = sB) := hsB
    clear hbn hbl o1 o2 o3 hsB e1 e2 e3 e4 hal hB
    go_wp2_with fail
    refine (HK.out w0 u3 fb (nx 8 R.2).2 hA.out (H3.out.amb hb.out HL.out) H3.out.fd).mono ?_
    rintro e u4 ⟨rfl, g4, f4⟩
    have H4 := H3.out.next g4 f4
    have HA8 : Hid (KnA u4 b6 sA R.1.n) := HA7.out.next g4 HN6.out
    rw [HB.out] at H4
    have H4 : Hid (KnS w0 w fb u4 b4 B.2) := H4
    rw [HB.out, HSB.out]
    clear g4 f4 H3 HA7
    have HLT : Hid (b6 < u4.heap.size) := (Array.getElem?_eq_some_iff.1 HA8.out).1
    have H5 : Hid (KnS w0 w fb (u4.alloc (.cells #[.string sB, .int .i64 B.1.n] 45)) b4 B.2) := H4.out.below (bl1 _ _)
    obtain ⟨y0, y1, y2, y3⟩ := two_cells (show (u4.alloc (.cells #[.string sB, .int .i64 B.1.n] 45)).heap[b6]? = some (.cells #[.string sA, .int .i64 R.1.n] 45 (0, 0)) by rw [Below.heap_alloc _ _ _ HLT.out]; exact HA8.out)
    obtain ⟨c0, c1, z0, z1, z2, z3⟩ := H5.out.cells
    have HDD := H5.out.done (.string t4) (.int .i64 (R.1.n - B.1.n))
    have HDD : Hid _ := HDD
    go_wp2_with fail
    refine bodyPost_ret (results_cell1 rfl _ _ _ ⟨b4, 0, none⟩ _ _ rfl HDD.out.1) rfl ?_
    rw [HM.out, HE.out]
    refine ⟨?_, HDD.out.2.1, HDD.out.2.2⟩
    rw [← HT4.out, ← rnd_two (j := 1) (x := [32, 45, 32]) R.1.g B.1.g rfl]
  · skip
    obtain ⟨B, hB⟩ : ∃ B, knG deep (nx 8 R.2).2 = B := ⟨_, rfl⟩
    have HB : Hid (knG deep (nx 8 R.2).2 = B) := hB
    have hbn : B.1.n.natAbs ≤ KB deep := by rw [← hB]; exact kn_bd (Nat.le_succ_of_le HD.out) _
    have hbl : (rnd B.1.g).length ≤ 1000 := by rw [← hB]; exact kn_small (Nat.le_succ_of_le HD.out) _
    have HE : Hid (knG (deep + 1) fd = (⟨tOpen :: ((R.1.g ++ tOp 2 :: B.1.g) ++ [tClose]), binA 7 R.1.d B.1.d, R.1.n * B.1.n⟩, B.2)) := by
      unfold Hid
      rw [knG]
      simp only [HR.out]
      rw [if_neg (show ¬ (nx 8 R.2).1 = 0 by rw [HS.out]; decide), if_pos HS.out]
      rw [hB]
    obtain ⟨o1, o2, o3⟩ := knOps HD.out HBN.out hbn
    obtain ⟨n1, n2⟩ := knWrap o3
    obtain ⟨sB, hsB⟩ : ∃ s : ByteArray, ⟨(rnd B.1.g).toArray⟩ = s := ⟨_, rfl⟩
    obtain ⟨t1, e1⟩ : ∃ s : ByteArray, ⟨([40] ++ rnd R.1.g).toArray⟩ = s := ⟨_, rfl⟩
    obtain ⟨t2, e2⟩ : ∃ s : ByteArray, ⟨([40] ++ rnd R.1.g ++ [32, 42, 32]).toArray⟩ = s := ⟨_, rfl⟩
    obtain ⟨t3, e3⟩ : ∃ s : ByteArray, ⟨([40] ++ rnd R.1.g ++ [32, 42, 32] ++ rnd B.1.g).toArray⟩ = s := ⟨_, rfl⟩
    obtain ⟨t4, e4⟩ : ∃ s : ByteArray, ⟨([40] ++ rnd R.1.g ++ [32, 42, 32] ++ rnd B.1.g ++ [41]).toArray⟩ = s := ⟨_, rfl⟩
    have hal := HLN.out
    have k1 := cats (P := Tryz.prog) [40] (rnd R.1.g) (by simp only [List.length_append, List.length_cons, List.length_nil]; omega) (by omega)
    have k2 := cats (P := Tryz.prog) ([40] ++ rnd R.1.g) [32, 42, 32] (by simp only [List.length_append, List.length_cons, List.length_nil]; omega) (by decide)
    have k3 := cats (P := Tryz.prog) ([40] ++ rnd R.1.g ++ [32, 42, 32]) (rnd B.1.g) (by simp only [List.length_append, List.length_cons, List.length_nil]; omega) (by omega)
    have k4 := cats (P := Tryz.prog) ([40] ++ rnd R.1.g ++ [32, 42, 32] ++ rnd B.1.g) [41] (by simp only [List.length_append, List.length_cons, List.length_nil]; omega) (by decide)
    rw [HSA.out, e1] at k1
    rw [e1, e2] at k2
    rw [e2, hsB, e3] at k3
    rw [e3, e4] at k4
    have HT4 : Hid (⟨([40] ++ rnd R.1.g ++ [32, 42, 32] ++ rnd B.1.g ++ [41]).toArray⟩ = t4) := e4
    have HSB : Hid (⟨(rnd B.1.g).toArray⟩ = sB) := hsB
    clear hbn hbl o1 o2 o3 hsB e1 e2 e3 e4 hal hB
    go_wp2_with fail
    refine (HK.out w0 u3 fb (nx 8 R.2).2 hA.out (H3.out.amb hb.out HL.out) H3.out.fd).mono ?_
    rintro e u4 ⟨rfl, g4, f4⟩
    have H4 := H3.out.next g4 f4
    have HA8 : Hid (KnA u4 b6 sA R.1.n) := HA7.out.next g4 HN6.out
    rw [HB.out] at H4
    have H4 : Hid (KnS w0 w fb u4 b4 B.2) := H4
    rw [HB.out, HSB.out]
    clear g4 f4 H3 HA7
    have HLT : Hid (b6 < u4.heap.size) := (Array.getElem?_eq_some_iff.1 HA8.out).1
    have H5 : Hid (KnS w0 w fb (u4.alloc (.cells #[.string sB, .int .i64 B.1.n] 45)) b4 B.2) := H4.out.below (bl1 _ _)
    obtain ⟨y0, y1, y2, y3⟩ := two_cells (show (u4.alloc (.cells #[.string sB, .int .i64 B.1.n] 45)).heap[b6]? = some (.cells #[.string sA, .int .i64 R.1.n] 45 (0, 0)) by rw [Below.heap_alloc _ _ _ HLT.out]; exact HA8.out)
    obtain ⟨c0, c1, z0, z1, z2, z3⟩ := H5.out.cells
    have HDD := H5.out.done (.string t4) (.int .i64 (R.1.n * B.1.n))
    have HDD : Hid _ := HDD
    go_wp2_with fail
    refine bodyPost_ret (results_cell1 rfl _ _ _ ⟨b4, 0, none⟩ _ _ rfl HDD.out.1) rfl ?_
    rw [HM.out, HE.out]
    refine ⟨?_, HDD.out.2.1, HDD.out.2.2⟩
    rw [← HT4.out, ← rnd_two (j := 2) (x := [32, 42, 32]) R.1.g B.1.g rfl]
  · skip
    obtain ⟨q, hq⟩ : ∃ q, 1 + (nx 9 (nx 8 R.2).2).1 = q := ⟨_, rfl⟩
    have hq9 : 1 ≤ q ∧ q ≤ 9 := by have := nx_lt 9 (by omega) (nx 8 R.2).2; exact ⟨by omega, by omega⟩
    have HE : Hid (knG (deep + 1) fd = (⟨tOpen :: (((tOpen :: (R.1.g ++ [tClose])) ++ tOp 3 :: dn' q) ++ [tClose]), binA 8 R.1.d (retA (vI (q : Nat))), R.1.n.tdiv (q : Nat)⟩, (nx 9 (nx 8 R.2).2).2)) := by
      unfold Hid
      rw [knG]
      simp only [HR.out]
      rw [if_neg (show ¬ (nx 8 R.2).1 = 0 by rw [HS.out]; decide), if_neg (show ¬ (nx 8 R.2).1 = 1 by rw [HS.out]; decide), if_pos HS.out]
      rw [hq]
    have HQ : Hid (1 ≤ q ∧ q ≤ 9) := hq9
    obtain ⟨q1, q2⟩ := knQ hq hq9.2
    obtain ⟨q3, q4, q5⟩ := knQ0 hq9.1
    obtain ⟨n1, n2⟩ := knWrap (knDiv (q := q) HD.out HBN.out)
    obtain ⟨D, hD⟩ : ∃ D, Lib.decDigits q = D := ⟨_, rfl⟩
    have hdl : D.length ≤ 3 := by rw [← hD]; exact dec_l (by omega)
    have HDQ : Hid (Lib.decDigits q = D) := hD
    obtain ⟨sD, hsD⟩ : ∃ s : ByteArray, ⟨D.toArray⟩ = s := ⟨_, rfl⟩
    obtain ⟨t1, e1⟩ : ∃ s : ByteArray, ⟨([40, 40] ++ rnd R.1.g).toArray⟩ = s := ⟨_, rfl⟩
    obtain ⟨t2, e2⟩ : ∃ s : ByteArray, ⟨([40, 40] ++ rnd R.1.g ++ [41, 32, 47, 32]).toArray⟩ = s := ⟨_, rfl⟩
    obtain ⟨t3, e3⟩ : ∃ s : ByteArray, ⟨([40, 40] ++ rnd R.1.g ++ [41, 32, 47, 32] ++ D).toArray⟩ = s := ⟨_, rfl⟩
    obtain ⟨t4, e4⟩ : ∃ s : ByteArray, ⟨([40, 40] ++ rnd R.1.g ++ [41, 32, 47, 32] ++ D ++ [41]).toArray⟩ = s := ⟨_, rfl⟩
    have hal := HLN.out
    have k1 := cats (P := Tryz.prog) [40, 40] (rnd R.1.g) (by decide) (by omega)
    have k2 := cats (P := Tryz.prog) ([40, 40] ++ rnd R.1.g) [41, 32, 47, 32] (by simp only [List.length_append, List.length_cons, List.length_nil]; omega) (by decide)
    have k3 := cats (P := Tryz.prog) ([40, 40] ++ rnd R.1.g ++ [41, 32, 47, 32]) D (by simp only [List.length_append, List.length_cons, List.length_nil]; omega) (by omega)
    have k4 := cats (P := Tryz.prog) ([40, 40] ++ rnd R.1.g ++ [41, 32, 47, 32] ++ D) [41] (by simp only [List.length_append, List.length_cons, List.length_nil]; omega) (by decide)
    rw [HSA.out, e1] at k1
    rw [e1, e2] at k2
    rw [e2, hsD, e3] at k3
    rw [e3, e4] at k4
    have HT4 : Hid (⟨([40, 40] ++ rnd R.1.g ++ [41, 32, 47, 32] ++ D ++ [41]).toArray⟩ = t4) := e4
    have HSD : Hid (⟨D.toArray⟩ = sD) := hsD
    obtain ⟨k9, hk9⟩ : ∃ k9, (nx 9 (nx 8 R.2).2).1 = k9 := ⟨_, rfl⟩
    have HK9 : Hid ((nx 9 (nx 8 R.2).2).1 = k9) := hk9
    rw [hk9] at q1 q2
    clear hq hq9 hdl hD hsD e1 e2 e3 e4 hal hk9 p3 p4
    go_wp2_with fail
    refine (next_any 9 (by omega) (by omega) _ w0.heap.size fb (nx 8 R.2).2 H3.out.fd).mono ?_
    rintro e u4 ⟨rfl, g4, f4⟩
    have H4 : Hid (KnS w0 w fb u4 b4 (nx 9 (nx 8 R.2).2).2) := H3.out.next g4 f4
    have HA8 : Hid (KnA u4 b6 sA R.1.n) := HA7.out.next g4 HN6.out
    rw [HK9.out]
    clear g4 f4 H3 HA7
    go_wp2_with fail
    have hS0 : (fun w' : World => w'.heap[b6]? = some (.cells #[.string sA, .int .i64 R.1.n] 45 (0, 0))) { u4 with drawn := u4.drawn + 1 } := HA8.out
    refine wp_region_held (S := (fun w' : World => w'.heap[b6]? = some (.cells #[.string sA, .int .i64 R.1.n] 45 (0, 0)))) (by kernel_rfl) ?_
    refine wpAnyH_take (i := 0) (v := .pointer (some ⟨b6, 0, none⟩)) rfl (by kernel_rfl) (by kernel_rfl) (by kernel_rfl) (fun _ _ _ h => h) (Or.inl ⟨by rfl, fun w hSw => by go_simp⟩) hS0 ?_
    (try simp only [Act.put, List.setIfInBounds_toArray, List.set_cons_zero, List.set_cons_succ, List.getElem_toArray, List.getElem_cons_zero, List.getElem_cons_succ])
    refine wpAnyH_take (i := 1) (v := .string sA) rfl (by kernel_rfl) (by kernel_rfl) (by kernel_rfl) (fun _ _ _ h => h) (Or.inl ⟨by rfl, fun w hSw => by obtain ⟨y0, y1, y2, y3⟩ := two_cells hSw; go_simp⟩) hS0 ?_
    (try simp only [Act.put, List.setIfInBounds_toArray, List.set_cons_zero, List.set_cons_succ, List.getElem_toArray, List.getElem_cons_zero, List.getElem_cons_succ])
    refine wpAnyH_take (i := 2) (v := .string t1) rfl (by kernel_rfl) (by kernel_rfl) (by kernel_rfl) (fun _ _ _ h => h) (Or.inl ⟨by rfl, fun w hSw => by go_simp⟩) hS0 ?_
    (try simp only [Act.put, List.setIfInBounds_toArray, List.set_cons_zero, List.set_cons_succ, List.getElem_toArray, List.getElem_cons_zero, List.getElem_cons_succ])
    refine wpAnyH_take (i := 3) (v := .string t2) rfl (by kernel_rfl) (by kernel_rfl) (by kernel_rfl) (fun _ _ _ h => h) (Or.inl ⟨by rfl, fun w hSw => by go_simp⟩) hS0 ?_
    (try simp only [Act.put, List.setIfInBounds_toArray, List.set_cons_zero, List.set_cons_succ, List.getElem_toArray, List.getElem_cons_zero, List.getElem_cons_succ])
    refine wpAnyH_take (i := 4) (v := .int .i64 q) rfl (by kernel_rfl) (by kernel_rfl) (by kernel_rfl) (fun _ _ _ h => h) (Or.inl ⟨by rfl, fun w hSw => by go_simp⟩) hS0 ?_
    (try simp only [Act.put, List.setIfInBounds_toArray, List.set_cons_zero, List.set_cons_succ, List.getElem_toArray, List.getElem_cons_zero, List.getElem_cons_succ])
    refine wpAnyH_take (i := 8) (v := .pointer (some ⟨b6, 1, none⟩)) rfl (by kernel_rfl) (by kernel_rfl) (by kernel_rfl) (fun _ _ _ h => h) (Or.inl ⟨by rfl, fun w hSw => by go_simp⟩) hS0 ?_
    (try simp only [Act.put, List.setIfInBounds_toArray, List.set_cons_zero, List.set_cons_succ, List.getElem_toArray, List.getElem_cons_zero, List.getElem_cons_succ])
    refine wpAnyH_take (i := 9) (v := .int .i64 R.1.n) rfl (by kernel_rfl) (by kernel_rfl) (by kernel_rfl) (fun _ _ _ h => h) (Or.inl ⟨by rfl, fun w hSw => by obtain ⟨y0, y1, y2, y3⟩ := two_cells hSw; go_simp⟩) hS0 ?_
    (try simp only [Act.put, List.setIfInBounds_toArray, List.set_cons_zero, List.set_cons_succ, List.getElem_toArray, List.getElem_cons_zero, List.getElem_cons_succ])
    refine wpAnyH_take (i := 10) (v := .int .i64 q) rfl (by kernel_rfl) (by kernel_rfl) (by kernel_rfl) (fun _ _ _ h => h) (Or.inl ⟨by rfl, fun w hSw => by go_simp⟩) hS0 ?_
    (try simp only [Act.put, List.setIfInBounds_toArray, List.set_cons_zero, List.set_cons_succ, List.getElem_toArray, List.getElem_cons_zero, List.getElem_cons_succ])
    refine wpAnyH_take (i := 11) (v := .int .i64 (R.1.n.tdiv q)) rfl (by kernel_rfl) (by kernel_rfl) (by kernel_rfl) (fun _ _ _ h => h) (Or.inl ⟨by rfl, fun w hSw => by go_simp⟩) hS0 ?_
    (try simp only [Act.put, List.setIfInBounds_toArray, List.set_cons_zero, List.set_cons_succ, List.getElem_toArray, List.getElem_cons_zero, List.getElem_cons_succ])
    refine wpAnyH_ready (rs := [5]) (by kernel_rfl) (by simp) ?_
    refine AllReadyH.cons rfl (fun K hK => ?_) AllReadyH.nil
    go_simp
    refine (num_any q (Nat.lt_of_le_of_lt HQ.out.2 (by decide)) _ (hA.out.below ((H4.out.amb hb.out HL.out).trans (((Below.refl _ _).drew).mono (H4.out.amb hb.out HL.out).size)))).mono ?_
    rintro e u5 ⟨rfl, b5⟩
    have dd : Below u4.heap.size u4 u5 := ((Below.refl _ _).drew).trans b5
    have H5 : Hid (KnS w0 w fb u5 b4 (nx 9 (nx 8 R.2).2).2) := H4.out.below dd
    have HA9 : Hid (KnA u5 b6 sA R.1.n) := HA8.out.next (gb_below dd) HN6.out
    rw [HDQ.out, HSD.out]
    clear dd b5 H4 HA8 hS0
    refine hK.out _ _ HA9.out (fun _ => ?_)
    clear hK K
    (try simp only [Act.put, List.setIfInBounds_toArray, List.set_cons_zero, List.set_cons_succ, List.getElem_toArray, List.getElem_cons_zero, List.getElem_cons_succ])
    refine wpAnyH_take (i := 6) (v := .string t3) rfl (by kernel_rfl) (by kernel_rfl) (by kernel_rfl) (fun _ _ _ h => h) (Or.inl ⟨by rfl, fun w hSw => by go_simp⟩) HA9.out ?_
    (try simp only [Act.put, List.setIfInBounds_toArray, List.set_cons_zero, List.set_cons_succ, List.getElem_toArray, List.getElem_cons_zero, List.getElem_cons_succ])
    refine wpAnyH_take (i := 7) (v := .string t4) rfl (by kernel_rfl) (by kernel_rfl) (by kernel_rfl) (fun _ _ _ h => h) (Or.inl ⟨by rfl, fun w hSw => by go_simp⟩) HA9.out ?_
    (try simp only [Act.put, List.setIfInBounds_toArray, List.set_cons_zero, List.set_cons_succ, List.getElem_toArray, List.getElem_cons_zero, List.getElem_cons_succ])
    refine wpAnyH_take (i := 12) (v := .agg #[.string t4, .int .i64 (R.1.n.tdiv q)]) rfl (by kernel_rfl) (by kernel_rfl) (by kernel_rfl) (fun _ _ _ h => h) (Or.inl ⟨by rfl, fun w hSw => by go_simp⟩) HA9.out ?_
    (try simp only [Act.put, List.setIfInBounds_toArray, List.set_cons_zero, List.set_cons_succ, List.getElem_toArray, List.getElem_cons_zero, List.getElem_cons_succ])
    obtain ⟨c0, c1, z0, z1, z2, z3⟩ := H5.out.cells
    have HDD := H5.out.done (.string t4) (.int .i64 (R.1.n.tdiv q))
    have HDD : Hid _ := HDD
    refine wpAnyH_ready (rs := [13]) (by kernel_rfl) (by simp) ?_
    refine AllReadyH.cons rfl (fun K hK => ?_) AllReadyH.nil
    go_simp
    refine hK.out _ _ ?_ (fun _ => ?_)
    · exact kn_keep HN64.out HA9.out
    clear hK K
    (try simp only [Act.put, List.setIfInBounds_toArray, List.set_cons_zero, List.set_cons_succ, List.getElem_toArray, List.getElem_cons_zero, List.getElem_cons_succ])
    refine wpAnyH_done (by kernel_rfl) ?_ _
    go_wp2_with fail
    refine bodyPost_ret (results_cell1 rfl _ _ _ ⟨b4, 0, none⟩ _ _ rfl HDD.out.1) rfl ?_
    rw [HM.out, HE.out]
    refine ⟨?_, HDD.out.2.1, HDD.out.2.2⟩
    rw [← HT4.out, ← HDQ.out, ← rnd_div R.1.g (Nat.le_trans HQ.out.2 (by decide))]
  · skip
    obtain ⟨q, hq⟩ : ∃ q, (nx 12 (nx 8 R.2).2).1 = q := ⟨_, rfl⟩
    have hq12 : q < 12 := by rw [← hq]; exact nx_lt 12 (by omega) _
    have HQ : Hid (q < 12) := hq12
    have HQE : Hid ((nx 12 (nx 8 R.2).2).1 = q) := hq
    have HE : Hid (knG (deep + 1) fd = ((if R.1.n < (q : Int) then ⟨tIf :: tOpen :: (((R.1.g ++ tCmp 0 :: dn' q) ++ tComma :: (dn' 100 ++ tComma :: (tAt :: tOpen :: ([tText [81]] ++ [tClose])))) ++ [tClose]), ifA (binA 11 R.1.d (retA (vI q))) (retA (vI (100 : Nat))) (atA (retA (vT ⟨#[81]⟩))), 100⟩ else ⟨tIf :: tOpen :: (((R.1.g ++ tCmp 0 :: dn' q) ++ tComma :: ((dn' 1 ++ tOp 3 :: dn' 0) ++ tComma :: dn' 200)) ++ [tClose]), ifA (binA 11 R.1.d (retA (vI q))) (binA 8 (retA (vI (1 : Nat))) (retA (vI (0 : Nat)))) (retA (vI (200 : Nat))), 200⟩, (nx 12 (nx 8 R.2).2).2))) := by
      unfold Hid
      rw [knG]
      simp only [HR.out]
      rw [if_neg (show ¬ (nx 8 R.2).1 = 0 by rw [HS.out]; decide), if_neg (show ¬ (nx 8 R.2).1 = 1 by rw [HS.out]; decide), if_neg (show ¬ (nx 8 R.2).1 = 2 by rw [HS.out]; decide), if_pos HS.out]
      rw [hq]
    obtain ⟨D, hD⟩ : ∃ D, Lib.decDigits q = D := ⟨_, rfl⟩
    have hdl : D.length ≤ 3 := by rw [← hD]; exact dec_l (by omega)
    have HDQ : Hid (Lib.decDigits q = D) := hD
    obtain ⟨sD, hsD⟩ : ∃ s : ByteArray, ⟨D.toArray⟩ = s := ⟨_, rfl⟩
    obtain ⟨t1, e1⟩ : ∃ s : ByteArray, ⟨([105, 102, 40] ++ rnd R.1.g).toArray⟩ = s := ⟨_, rfl⟩
    obtain ⟨t2, e2⟩ : ∃ s : ByteArray, ⟨([105, 102, 40] ++ rnd R.1.g ++ [32, 60, 32]).toArray⟩ = s := ⟨_, rfl⟩
    obtain ⟨t3, e3⟩ : ∃ s : ByteArray, ⟨([105, 102, 40] ++ rnd R.1.g ++ [32, 60, 32] ++ D).toArray⟩ = s := ⟨_, rfl⟩
    obtain ⟨t4, e4⟩ : ∃ s : ByteArray, ⟨([105, 102, 40] ++ rnd R.1.g ++ [32, 60, 32] ++ D ++ [44, 32, 49, 48, 48, 44, 32, 97, 116, 40, 34, 81, 34, 41, 41]).toArray⟩ = s := ⟨_, rfl⟩
    obtain ⟨t5, e5⟩ : ∃ s : ByteArray, ⟨([105, 102, 40] ++ rnd R.1.g ++ [32, 60, 32] ++ D ++ [44, 32, 49, 32, 47, 32, 48, 44, 32, 50, 48, 48, 41]).toArray⟩ = s := ⟨_, rfl⟩
    have hal := HLN.out
    have k1 := cats (P := Tryz.prog) [105, 102, 40] (rnd R.1.g) (by decide) (by omega)
    have k2 := cats (P := Tryz.prog) ([105, 102, 40] ++ rnd R.1.g) [32, 60, 32] (by simp only [List.length_append, List.length_cons, List.length_nil]; omega) (by decide)
    have k3 := cats (P := Tryz.prog) ([105, 102, 40] ++ rnd R.1.g ++ [32, 60, 32]) D (by simp only [List.length_append, List.length_cons, List.length_nil]; omega) (by omega)
    have k4 := cats (P := Tryz.prog) ([105, 102, 40] ++ rnd R.1.g ++ [32, 60, 32] ++ D) [44, 32, 49, 48, 48, 44, 32, 97, 116, 40, 34, 81, 34, 41, 41] (by simp only [List.length_append, List.length_cons, List.length_nil]; omega) (by decide)
    have k5 := cats (P := Tryz.prog) ([105, 102, 40] ++ rnd R.1.g ++ [32, 60, 32] ++ D) [44, 32, 49, 32, 47, 32, 48, 44, 32, 50, 48, 48, 41] (by simp only [List.length_append, List.length_cons, List.length_nil]; omega) (by decide)
    rw [HSA.out, e1] at k1
    rw [e1, e2] at k2
    rw [e2, hsD, e3] at k3
    rw [e3, e4] at k4
    rw [e3, e5] at k5
    have HT4 : Hid (⟨([105, 102, 40] ++ rnd R.1.g ++ [32, 60, 32] ++ D ++ [44, 32, 49, 48, 48, 44, 32, 97, 116, 40, 34, 81, 34, 41, 41]).toArray⟩ = t4) := e4
    have HT5 : Hid (⟨([105, 102, 40] ++ rnd R.1.g ++ [32, 60, 32] ++ D ++ [44, 32, 49, 32, 47, 32, 48, 44, 32, 50, 48, 48, 41]).toArray⟩ = t5) := e5
    have HSD : Hid (⟨D.toArray⟩ = sD) := hsD
    clear hq hq12 hdl hD hsD e1 e2 e3 e4 e5 hal p3 p4
    go_wp2_with fail
    refine (next_any 12 (by omega) (by omega) _ w0.heap.size fb (nx 8 R.2).2 H3.out.fd).mono ?_
    rintro e u4 ⟨rfl, g4, f4⟩
    have H4 : Hid (KnS w0 w fb u4 b4 (nx 12 (nx 8 R.2).2).2) := H3.out.next g4 f4
    have HA8 : Hid (KnA u4 b6 sA R.1.n) := HA7.out.next g4 HN6.out
    rw [HQE.out]
    clear g4 f4 H3 HA7
    go_wp2_with fail
    have hS0 : (fun w' : World => w'.heap[b6]? = some (.cells #[.string sA, .int .i64 R.1.n] 45 (0, 0))) { u4 with drawn := u4.drawn + 1 } := HA8.out
    refine wp_region_held (S := (fun w' : World => w'.heap[b6]? = some (.cells #[.string sA, .int .i64 R.1.n] 45 (0, 0)))) (by kernel_rfl) ?_
    refine wpAnyH_take (i := 0) (v := .pointer (some ⟨b6, 0, none⟩)) rfl (by kernel_rfl) (by kernel_rfl) (by kernel_rfl) (fun _ _ _ h => h) (Or.inl ⟨by rfl, fun w hSw => by go_simp⟩) hS0 ?_
    (try simp only [Act.put, List.setIfInBounds_toArray, List.set_cons_zero, List.set_cons_succ, List.getElem_toArray, List.getElem_cons_zero, List.getElem_cons_succ])
    refine wpAnyH_take (i := 1) (v := .string sA) rfl (by kernel_rfl) (by kernel_rfl) (by kernel_rfl) (fun _ _ _ h => h) (Or.inl ⟨by rfl, fun w hSw => by obtain ⟨y0, y1, y2, y3⟩ := two_cells hSw; go_simp⟩) hS0 ?_
    (try simp only [Act.put, List.setIfInBounds_toArray, List.set_cons_zero, List.set_cons_succ, List.getElem_toArray, List.getElem_cons_zero, List.getElem_cons_succ])
    refine wpAnyH_take (i := 2) (v := .string t1) rfl (by kernel_rfl) (by kernel_rfl) (by kernel_rfl) (fun _ _ _ h => h) (Or.inl ⟨by rfl, fun w hSw => by go_simp⟩) hS0 ?_
    (try simp only [Act.put, List.setIfInBounds_toArray, List.set_cons_zero, List.set_cons_succ, List.getElem_toArray, List.getElem_cons_zero, List.getElem_cons_succ])
    refine wpAnyH_take (i := 3) (v := .string t2) rfl (by kernel_rfl) (by kernel_rfl) (by kernel_rfl) (fun _ _ _ h => h) (Or.inl ⟨by rfl, fun w hSw => by go_simp⟩) hS0 ?_
    (try simp only [Act.put, List.setIfInBounds_toArray, List.set_cons_zero, List.set_cons_succ, List.getElem_toArray, List.getElem_cons_zero, List.getElem_cons_succ])
    refine wpAnyH_take (i := 4) (v := .int .i64 q) rfl (by kernel_rfl) (by kernel_rfl) (by kernel_rfl) (fun _ _ _ h => h) (Or.inl ⟨by rfl, fun w hSw => by go_simp⟩) hS0 ?_
    (try simp only [Act.put, List.setIfInBounds_toArray, List.set_cons_zero, List.set_cons_succ, List.getElem_toArray, List.getElem_cons_zero, List.getElem_cons_succ])
    refine wpAnyH_ready (rs := [5, 9]) (by kernel_rfl) (by simp) ?_
    refine AllReadyH.cons rfl (fun K hK => ?_) (AllReadyH.cons rfl (fun K hK => ?_) AllReadyH.nil)
    · go_simp
      refine (num_any q (Nat.lt_trans HQ.out (by decide)) _ (hA.out.below ((H4.out.amb hb.out HL.out).trans (((Below.refl _ _).drew).mono (H4.out.amb hb.out HL.out).size)))).mono ?_
      rintro e u5 ⟨rfl, b5⟩
      have dd : Below u4.heap.size u4 u5 := ((Below.refl _ _).drew).trans b5
      have H5 : Hid (KnS w0 w fb u5 b4 (nx 12 (nx 8 R.2).2).2) := H4.out.below dd
      have HA9 : Hid (KnA u5 b6 sA R.1.n) := HA8.out.next (gb_below dd) HN6.out
      rw [HDQ.out, HSD.out]
      clear dd b5 H4 HA8 hS0
      refine hK.out _ _ HA9.out (fun _ => ?_)
      clear hK K
      (try simp only [Act.put, List.setIfInBounds_toArray, List.set_cons_zero, List.set_cons_succ, List.getElem_toArray, List.getElem_cons_zero, List.getElem_cons_succ])
      refine wpAnyH_take (i := 6) (v := .string t3) rfl (by kernel_rfl) (by kernel_rfl) (by kernel_rfl) (fun _ _ _ h => h) (Or.inl ⟨by rfl, fun w hSw => by go_simp⟩) HA9.out ?_
      (try simp only [Act.put, List.setIfInBounds_toArray, List.set_cons_zero, List.set_cons_succ, List.getElem_toArray, List.getElem_cons_zero, List.getElem_cons_succ])
      refine wpAnyH_take (i := 7) (v := .string t4) rfl (by kernel_rfl) (by kernel_rfl) (by kernel_rfl) (fun _ _ _ h => h) (Or.inl ⟨by rfl, fun w hSw => by go_simp⟩) HA9.out ?_
      (try simp only [Act.put, List.setIfInBounds_toArray, List.set_cons_zero, List.set_cons_succ, List.getElem_toArray, List.getElem_cons_zero, List.getElem_cons_succ])
      refine wpAnyH_take (i := 8) (v := .agg #[.string t4, .int .i64 100]) rfl (by kernel_rfl) (by kernel_rfl) (by kernel_rfl) (fun _ _ _ h => h) (Or.inl ⟨by rfl, fun w hSw => by go_simp⟩) HA9.out ?_
      (try simp only [Act.put, List.setIfInBounds_toArray, List.set_cons_zero, List.set_cons_succ, List.getElem_toArray, List.getElem_cons_zero, List.getElem_cons_succ])
      refine wpAnyH_ready (rs := [9]) (by kernel_rfl) (by simp) ?_
      refine AllReadyH.cons rfl (fun K hK => ?_) AllReadyH.nil
      go_simp
      have HLT : Hid (b6 < u5.heap.size) := (Array.getElem?_eq_some_iff.1 HA9.out).1
      have HP : Hid (KnP w0 w fb b4 b6 sA R.1.n (nx 12 (nx 8 R.2).2).2 (u5.alloc (.cells #[.string ⟨#[]⟩, .int .i64 0] 45)) u5.heap.size ⟨#[]⟩ 0) := KnP.start H5.out HA9.out
      clear H5 HA9 HLT
      generalize u5.alloc (.cells #[.string ⟨#[]⟩, .int .i64 0] 45) = u6 at *
      generalize u5.heap.size = b11 at *
      refine hK.out _ _ HP.out.a (fun _ => ?_)
      clear hK K
      (try simp only [Act.put, List.setIfInBounds_toArray, List.set_cons_zero, List.set_cons_succ, List.getElem_toArray, List.getElem_cons_zero, List.getElem_cons_succ])
      obtain ⟨v0, v1, v2, v3⟩ := two_cells HP.out.r
      refine wpAnyH_ready (rs := [10]) (by kernel_rfl) (by simp) ?_
      refine AllReadyH.cons rfl (fun K hK => ?_) AllReadyH.nil
      go_simp
      have HP2 := (HP.out.set0 t4).set1 100
      have HP2 : Hid _ := HP2
      refine hK.out _ _ HP2.out.a (fun _ => ?_)
      clear hK K v0 v1 v2 v3
      (try simp only [Act.put, List.setIfInBounds_toArray, List.set_cons_zero, List.set_cons_succ, List.getElem_toArray, List.getElem_cons_zero, List.getElem_cons_succ])
      refine wpAnyH_done (by kernel_rfl) ?_ _
      generalize World.setCell (World.setCell u6 ⟨b11, 0, none⟩ (.string t4)) ⟨b11, 1, none⟩ (.int .i64 100) = u7 at *
      obtain ⟨y0, y1, y2, y3⟩ := two_cells HP2.out.a
      by_cases hlt : R.1.n < (q : Int)
      · have hge : ¬ (q : Int) ≤ R.1.n := by omega
        have HEQ : Hid (R.1.n < (q : Int)) := hlt
        obtain ⟨v0, v1, v2, v3⟩ := two_cells HP2.out.r
        obtain ⟨c0, c1, z0, z1, z2, z3⟩ := HP2.out.s.cells
        have HDD := HP2.out.s.done (.string t4) (.int .i64 100)
        have HDD : Hid _ := HDD
        clear hlt
        go_wp2_with fail
        refine bodyPost_ret (results_cell1 rfl _ _ _ ⟨b4, 0, none⟩ _ _ rfl HDD.out.1) rfl ?_
        rw [HM.out, HE.out, if_pos HEQ.out]
        refine ⟨?_, HDD.out.2.1, HDD.out.2.2⟩
        rw [← HT4.out, ← HDQ.out, ← rnd_if1 R.1.g (Nat.le_of_lt (Nat.lt_trans HQ.out (by decide)))]
      · have hge : (q : Int) ≤ R.1.n := by omega
        have HEQ : Hid ((q : Int) ≤ R.1.n) := hge
        clear hlt
        go_wp2_with fail
        clear y0 y1 y2 y3
        have hS1 : (fun w' : World => w'.heap[b6]? = some (.cells #[.string sA, .int .i64 R.1.n] 45 (0, 0))) { u7 with drawn := u7.drawn + 1 } := HP2.out.a
        refine wp_region_held (S := (fun w' : World => w'.heap[b6]? = some (.cells #[.string sA, .int .i64 R.1.n] 45 (0, 0)))) (by kernel_rfl) ?_
        refine wpAnyH_take (i := 0) (v := .pointer (some ⟨b6, 0, none⟩)) rfl (by kernel_rfl) (by kernel_rfl) (by kernel_rfl) (fun _ _ _ h => h) (Or.inl ⟨by rfl, fun w hSw => by go_simp⟩) hS1 ?_
        (try simp only [Act.put, List.setIfInBounds_toArray, List.set_cons_zero, List.set_cons_succ, List.getElem_toArray, List.getElem_cons_zero, List.getElem_cons_succ])
        refine wpAnyH_take (i := 1) (v := .string sA) rfl (by kernel_rfl) (by kernel_rfl) (by kernel_rfl) (fun _ _ _ h => h) (Or.inl ⟨by rfl, fun w hSw => by obtain ⟨y0, y1, y2, y3⟩ := two_cells hSw; go_simp⟩) hS1 ?_
        (try simp only [Act.put, List.setIfInBounds_toArray, List.set_cons_zero, List.set_cons_succ, List.getElem_toArray, List.getElem_cons_zero, List.getElem_cons_succ])
        refine wpAnyH_take (i := 2) (v := .string t1) rfl (by kernel_rfl) (by kernel_rfl) (by kernel_rfl) (fun _ _ _ h => h) (Or.inl ⟨by rfl, fun w hSw => by go_simp⟩) hS1 ?_
        (try simp only [Act.put, List.setIfInBounds_toArray, List.set_cons_zero, List.set_cons_succ, List.getElem_toArray, List.getElem_cons_zero, List.getElem_cons_succ])
        refine wpAnyH_take (i := 3) (v := .string t2) rfl (by kernel_rfl) (by kernel_rfl) (by kernel_rfl) (fun _ _ _ h => h) (Or.inl ⟨by rfl, fun w hSw => by go_simp⟩) hS1 ?_
        (try simp only [Act.put, List.setIfInBounds_toArray, List.set_cons_zero, List.set_cons_succ, List.getElem_toArray, List.getElem_cons_zero, List.getElem_cons_succ])
        refine wpAnyH_take (i := 4) (v := .int .i64 q) rfl (by kernel_rfl) (by kernel_rfl) (by kernel_rfl) (fun _ _ _ h => h) (Or.inl ⟨by rfl, fun w hSw => by go_simp⟩) hS1 ?_
        (try simp only [Act.put, List.setIfInBounds_toArray, List.set_cons_zero, List.set_cons_succ, List.getElem_toArray, List.getElem_cons_zero, List.getElem_cons_succ])
        refine wpAnyH_ready (rs := [5]) (by kernel_rfl) (by simp) ?_
        refine AllReadyH.cons rfl (fun K hK => ?_) AllReadyH.nil
        go_simp
        refine (num_any q (Nat.lt_trans HQ.out (by decide)) _ (hA.out.below ((HP2.out.s.amb hb.out HL.out).trans (((Below.refl _ _).drew).mono (HP2.out.s.amb hb.out HL.out).size)))).mono ?_
        rintro e u8 ⟨rfl, b8⟩
        have HP3 : Hid (KnP w0 w fb b4 b6 sA R.1.n (nx 12 (nx 8 R.2).2).2 u8 b11 t4 100) := HP2.out.below (((Below.refl _ _).drew).trans b8)
        rw [HDQ.out, HSD.out]
        clear b8 HP2 hS1
        refine hK.out _ _ HP3.out.a (fun _ => ?_)
        clear hK K
        (try simp only [Act.put, List.setIfInBounds_toArray, List.set_cons_zero, List.set_cons_succ, List.getElem_toArray, List.getElem_cons_zero, List.getElem_cons_succ])
        refine wpAnyH_take (i := 6) (v := .string t3) rfl (by kernel_rfl) (by kernel_rfl) (by kernel_rfl) (fun _ _ _ h => h) (Or.inl ⟨by rfl, fun w hSw => by go_simp⟩) HP3.out.a ?_
        (try simp only [Act.put, List.setIfInBounds_toArray, List.set_cons_zero, List.set_cons_succ, List.getElem_toArray, List.getElem_cons_zero, List.getElem_cons_succ])
        refine wpAnyH_take (i := 7) (v := .string t5) rfl (by kernel_rfl) (by kernel_rfl) (by kernel_rfl) (fun _ _ _ h => h) (Or.inl ⟨by rfl, fun w hSw => by go_simp⟩) HP3.out.a ?_
        (try simp only [Act.put, List.setIfInBounds_toArray, List.set_cons_zero, List.set_cons_succ, List.getElem_toArray, List.getElem_cons_zero, List.getElem_cons_succ])
        refine wpAnyH_take (i := 8) (v := .pointer (some ⟨b11, 0, none⟩)) rfl (by kernel_rfl) (by kernel_rfl) (by kernel_rfl) (fun _ _ _ h => h) (Or.inl ⟨by rfl, fun w hSw => by go_simp⟩) HP3.out.a ?_
        (try simp only [Act.put, List.setIfInBounds_toArray, List.set_cons_zero, List.set_cons_succ, List.getElem_toArray, List.getElem_cons_zero, List.getElem_cons_succ])
        obtain ⟨v0, v1, v2, v3⟩ := two_cells HP3.out.r
        refine wpAnyH_ready (rs := [9]) (by kernel_rfl) (by simp) ?_
        refine AllReadyH.cons rfl (fun K hK => ?_) AllReadyH.nil
        go_simp
        have HP4 : Hid (KnP w0 w fb b4 b6 sA R.1.n (nx 12 (nx 8 R.2).2).2 (u8.setCell ⟨b11, 0, none⟩ (.string t5)) b11 t5 100) := HP3.out.set0 t5
        refine hK.out _ _ HP4.out.a (fun _ => ?_)
        clear hK K v0 v1 v2 v3 HP3
        (try simp only [Act.put, List.setIfInBounds_toArray, List.set_cons_zero, List.set_cons_succ, List.getElem_toArray, List.getElem_cons_zero, List.getElem_cons_succ])
        refine wpAnyH_done (by kernel_rfl) ?_ _
        generalize u8.setCell ⟨b11, 0, none⟩ (.string t5) = u9 at *
        have HP5 : Hid (KnP w0 w fb b4 b6 sA R.1.n (nx 12 (nx 8 R.2).2).2 (u9.setCell ⟨b11, 1, none⟩ (.int .i64 200)) b11 t5 200) := HP4.out.set1 200
        obtain ⟨v0, v1, v2, v3⟩ := two_cells HP4.out.r
        obtain ⟨x0, x1, x2, x3⟩ := two_cells HP5.out.r
        obtain ⟨c0, c1, z0, z1, z2, z3⟩ := HP5.out.s.cells
        have HDD := HP5.out.s.done (.string t5) (.int .i64 200)
        have HDD : Hid _ := HDD
        go_wp2_with fail
        refine bodyPost_ret (results_cell1 rfl _ _ _ ⟨b4, 0, none⟩ _ _ rfl HDD.out.1) rfl ?_
        rw [HM.out, HE.out, if_neg (Int.not_lt.2 HEQ.out)]
        refine ⟨?_, HDD.out.2.1, HDD.out.2.2⟩
        rw [← HT5.out, ← HDQ.out, ← rnd_if2 R.1.g (Nat.le_of_lt (Nat.lt_trans HQ.out (by decide)))]
    · go_simp
      have HP : Hid (KnP w0 w fb b4 b6 sA R.1.n (nx 12 (nx 8 R.2).2).2 (u4.alloc (.cells #[.string ⟨#[]⟩, .int .i64 0] 45)).drew u4.heap.size ⟨#[]⟩ 0) := (KnP.start H4.out HA8.out).below ((Below.refl _ _).drew)
      clear H4 HA8 hS0
      generalize (u4.alloc (.cells #[.string ⟨#[]⟩, .int .i64 0] 45)).drew = u5 at *
      generalize u4.heap.size = b11 at *
      refine hK.out _ _ HP.out.a (fun _ => ?_)
      clear hK K
      (try simp only [Act.put, List.setIfInBounds_toArray, List.set_cons_zero, List.set_cons_succ, List.getElem_toArray, List.getElem_cons_zero, List.getElem_cons_succ])
      refine wpAnyH_ready (rs := [5]) (by kernel_rfl) (by simp) ?_
      refine AllReadyH.cons rfl (fun K hK => ?_) AllReadyH.nil
      go_simp
      refine (num_any q (Nat.lt_trans HQ.out (by decide)) _ (hA.out.below (HP.out.s.amb hb.out HL.out))).mono ?_
      rintro e u6 ⟨rfl, b5⟩
      have HPB : Hid (KnP w0 w fb b4 b6 sA R.1.n (nx 12 (nx 8 R.2).2).2 u6 b11 ⟨#[]⟩ 0) := HP.out.below b5
      rw [HDQ.out, HSD.out]
      clear b5 HP
      refine hK.out _ _ HPB.out.a (fun _ => ?_)
      clear hK K
      (try simp only [Act.put, List.setIfInBounds_toArray, List.set_cons_zero, List.set_cons_succ, List.getElem_toArray, List.getElem_cons_zero, List.getElem_cons_succ])
      refine wpAnyH_take (i := 6) (v := .string t3) rfl (by kernel_rfl) (by kernel_rfl) (by kernel_rfl) (fun _ _ _ h => h) (Or.inl ⟨by rfl, fun w hSw => by go_simp⟩) HPB.out.a ?_
      (try simp only [Act.put, List.setIfInBounds_toArray, List.set_cons_zero, List.set_cons_succ, List.getElem_toArray, List.getElem_cons_zero, List.getElem_cons_succ])
      refine wpAnyH_take (i := 7) (v := .string t4) rfl (by kernel_rfl) (by kernel_rfl) (by kernel_rfl) (fun _ _ _ h => h) (Or.inl ⟨by rfl, fun w hSw => by go_simp⟩) HPB.out.a ?_
      (try simp only [Act.put, List.setIfInBounds_toArray, List.set_cons_zero, List.set_cons_succ, List.getElem_toArray, List.getElem_cons_zero, List.getElem_cons_succ])
      refine wpAnyH_take (i := 8) (v := .agg #[.string t4, .int .i64 100]) rfl (by kernel_rfl) (by kernel_rfl) (by kernel_rfl) (fun _ _ _ h => h) (Or.inl ⟨by rfl, fun w hSw => by go_simp⟩) HPB.out.a ?_
      (try simp only [Act.put, List.setIfInBounds_toArray, List.set_cons_zero, List.set_cons_succ, List.getElem_toArray, List.getElem_cons_zero, List.getElem_cons_succ])
      obtain ⟨v0, v1, v2, v3⟩ := two_cells HPB.out.r
      refine wpAnyH_ready (rs := [10]) (by kernel_rfl) (by simp) ?_
      refine AllReadyH.cons rfl (fun K hK => ?_) AllReadyH.nil
      go_simp
      have HP2 := (HPB.out.set0 t4).set1 100
      have HP2 : Hid _ := HP2
      refine hK.out _ _ HP2.out.a (fun _ => ?_)
      clear hK K v0 v1 v2 v3 HPB
      (try simp only [Act.put, List.setIfInBounds_toArray, List.set_cons_zero, List.set_cons_succ, List.getElem_toArray, List.getElem_cons_zero, List.getElem_cons_succ])
      refine wpAnyH_done (by kernel_rfl) ?_ _
      generalize World.setCell (World.setCell u6 ⟨b11, 0, none⟩ (.string t4)) ⟨b11, 1, none⟩ (.int .i64 100) = u7 at *
      obtain ⟨y0, y1, y2, y3⟩ := two_cells HP2.out.a
      by_cases hlt : R.1.n < (q : Int)
      · have hge : ¬ (q : Int) ≤ R.1.n := by omega
        have HEQ : Hid (R.1.n < (q : Int)) := hlt
        obtain ⟨v0, v1, v2, v3⟩ := two_cells HP2.out.r
        obtain ⟨c0, c1, z0, z1, z2, z3⟩ := HP2.out.s.cells
        have HDD := HP2.out.s.done (.string t4) (.int .i64 100)
        have HDD : Hid _ := HDD
        clear hlt
        go_wp2_with fail
        refine bodyPost_ret (results_cell1 rfl _ _ _ ⟨b4, 0, none⟩ _ _ rfl HDD.out.1) rfl ?_
        rw [HM.out, HE.out, if_pos HEQ.out]
        refine ⟨?_, HDD.out.2.1, HDD.out.2.2⟩
        rw [← HT4.out, ← HDQ.out, ← rnd_if1 R.1.g (Nat.le_of_lt (Nat.lt_trans HQ.out (by decide)))]
      · have hge : (q : Int) ≤ R.1.n := by omega
        have HEQ : Hid ((q : Int) ≤ R.1.n) := hge
        clear hlt
        go_wp2_with fail
        clear y0 y1 y2 y3
        have hS1 : (fun w' : World => w'.heap[b6]? = some (.cells #[.string sA, .int .i64 R.1.n] 45 (0, 0))) { u7 with drawn := u7.drawn + 1 } := HP2.out.a
        refine wp_region_held (S := (fun w' : World => w'.heap[b6]? = some (.cells #[.string sA, .int .i64 R.1.n] 45 (0, 0)))) (by kernel_rfl) ?_
        refine wpAnyH_take (i := 0) (v := .pointer (some ⟨b6, 0, none⟩)) rfl (by kernel_rfl) (by kernel_rfl) (by kernel_rfl) (fun _ _ _ h => h) (Or.inl ⟨by rfl, fun w hSw => by go_simp⟩) hS1 ?_
        (try simp only [Act.put, List.setIfInBounds_toArray, List.set_cons_zero, List.set_cons_succ, List.getElem_toArray, List.getElem_cons_zero, List.getElem_cons_succ])
        refine wpAnyH_take (i := 1) (v := .string sA) rfl (by kernel_rfl) (by kernel_rfl) (by kernel_rfl) (fun _ _ _ h => h) (Or.inl ⟨by rfl, fun w hSw => by obtain ⟨y0, y1, y2, y3⟩ := two_cells hSw; go_simp⟩) hS1 ?_
        (try simp only [Act.put, List.setIfInBounds_toArray, List.set_cons_zero, List.set_cons_succ, List.getElem_toArray, List.getElem_cons_zero, List.getElem_cons_succ])
        refine wpAnyH_take (i := 2) (v := .string t1) rfl (by kernel_rfl) (by kernel_rfl) (by kernel_rfl) (fun _ _ _ h => h) (Or.inl ⟨by rfl, fun w hSw => by go_simp⟩) hS1 ?_
        (try simp only [Act.put, List.setIfInBounds_toArray, List.set_cons_zero, List.set_cons_succ, List.getElem_toArray, List.getElem_cons_zero, List.getElem_cons_succ])
        refine wpAnyH_take (i := 3) (v := .string t2) rfl (by kernel_rfl) (by kernel_rfl) (by kernel_rfl) (fun _ _ _ h => h) (Or.inl ⟨by rfl, fun w hSw => by go_simp⟩) hS1 ?_
        (try simp only [Act.put, List.setIfInBounds_toArray, List.set_cons_zero, List.set_cons_succ, List.getElem_toArray, List.getElem_cons_zero, List.getElem_cons_succ])
        refine wpAnyH_take (i := 4) (v := .int .i64 q) rfl (by kernel_rfl) (by kernel_rfl) (by kernel_rfl) (fun _ _ _ h => h) (Or.inl ⟨by rfl, fun w hSw => by go_simp⟩) hS1 ?_
        (try simp only [Act.put, List.setIfInBounds_toArray, List.set_cons_zero, List.set_cons_succ, List.getElem_toArray, List.getElem_cons_zero, List.getElem_cons_succ])
        refine wpAnyH_ready (rs := [5]) (by kernel_rfl) (by simp) ?_
        refine AllReadyH.cons rfl (fun K hK => ?_) AllReadyH.nil
        go_simp
        refine (num_any q (Nat.lt_trans HQ.out (by decide)) _ (hA.out.below ((HP2.out.s.amb hb.out HL.out).trans (((Below.refl _ _).drew).mono (HP2.out.s.amb hb.out HL.out).size)))).mono ?_
        rintro e u8 ⟨rfl, b8⟩
        have HP3 : Hid (KnP w0 w fb b4 b6 sA R.1.n (nx 12 (nx 8 R.2).2).2 u8 b11 t4 100) := HP2.out.below (((Below.refl _ _).drew).trans b8)
        rw [HDQ.out, HSD.out]
        clear b8 HP2 hS1
        refine hK.out _ _ HP3.out.a (fun _ => ?_)
        clear hK K
        (try simp only [Act.put, List.setIfInBounds_toArray, List.set_cons_zero, List.set_cons_succ, List.getElem_toArray, List.getElem_cons_zero, List.getElem_cons_succ])
        refine wpAnyH_take (i := 6) (v := .string t3) rfl (by kernel_rfl) (by kernel_rfl) (by kernel_rfl) (fun _ _ _ h => h) (Or.inl ⟨by rfl, fun w hSw => by go_simp⟩) HP3.out.a ?_
        (try simp only [Act.put, List.setIfInBounds_toArray, List.set_cons_zero, List.set_cons_succ, List.getElem_toArray, List.getElem_cons_zero, List.getElem_cons_succ])
        refine wpAnyH_take (i := 7) (v := .string t5) rfl (by kernel_rfl) (by kernel_rfl) (by kernel_rfl) (fun _ _ _ h => h) (Or.inl ⟨by rfl, fun w hSw => by go_simp⟩) HP3.out.a ?_
        (try simp only [Act.put, List.setIfInBounds_toArray, List.set_cons_zero, List.set_cons_succ, List.getElem_toArray, List.getElem_cons_zero, List.getElem_cons_succ])
        refine wpAnyH_take (i := 8) (v := .pointer (some ⟨b11, 0, none⟩)) rfl (by kernel_rfl) (by kernel_rfl) (by kernel_rfl) (fun _ _ _ h => h) (Or.inl ⟨by rfl, fun w hSw => by go_simp⟩) HP3.out.a ?_
        (try simp only [Act.put, List.setIfInBounds_toArray, List.set_cons_zero, List.set_cons_succ, List.getElem_toArray, List.getElem_cons_zero, List.getElem_cons_succ])
        obtain ⟨v0, v1, v2, v3⟩ := two_cells HP3.out.r
        refine wpAnyH_ready (rs := [9]) (by kernel_rfl) (by simp) ?_
        refine AllReadyH.cons rfl (fun K hK => ?_) AllReadyH.nil
        go_simp
        have HP4 : Hid (KnP w0 w fb b4 b6 sA R.1.n (nx 12 (nx 8 R.2).2).2 (u8.setCell ⟨b11, 0, none⟩ (.string t5)) b11 t5 100) := HP3.out.set0 t5
        refine hK.out _ _ HP4.out.a (fun _ => ?_)
        clear hK K v0 v1 v2 v3 HP3
        (try simp only [Act.put, List.setIfInBounds_toArray, List.set_cons_zero, List.set_cons_succ, List.getElem_toArray, List.getElem_cons_zero, List.getElem_cons_succ])
        refine wpAnyH_done (by kernel_rfl) ?_ _
        generalize u8.setCell ⟨b11, 0, none⟩ (.string t5) = u9 at *
        have HP5 : Hid (KnP w0 w fb b4 b6 sA R.1.n (nx 12 (nx 8 R.2).2).2 (u9.setCell ⟨b11, 1, none⟩ (.int .i64 200)) b11 t5 200) := HP4.out.set1 200
        obtain ⟨v0, v1, v2, v3⟩ := two_cells HP4.out.r
        obtain ⟨x0, x1, x2, x3⟩ := two_cells HP5.out.r
        obtain ⟨c0, c1, z0, z1, z2, z3⟩ := HP5.out.s.cells
        have HDD := HP5.out.s.done (.string t5) (.int .i64 200)
        have HDD : Hid _ := HDD
        go_wp2_with fail
        refine bodyPost_ret (results_cell1 rfl _ _ _ ⟨b4, 0, none⟩ _ _ rfl HDD.out.1) rfl ?_
        rw [HM.out, HE.out, if_neg (Int.not_lt.2 HEQ.out)]
        refine ⟨?_, HDD.out.2.1, HDD.out.2.2⟩
        rw [← HT5.out, ← HDQ.out, ← rnd_if2 R.1.g (Nat.le_of_lt (Nat.lt_trans HQ.out (by decide)))]
  · clear p3 p4
    have HE : Hid (knG (deep + 1) fd = (⟨tOpen :: (([tSum, tOpen, tCell 0, tColon, tCell 8, tClose] ++ tOp 0 :: R.1.g) ++ [tClose]), binA 5 (sumA (rangeL 0 8) (vI 0)) R.1.d, 24 + R.1.n⟩, (nx 8 R.2).2)) := by
      unfold Hid
      rw [knG]
      simp only [HR.out]
      rw [if_neg (show ¬ (nx 8 R.2).1 = 0 by rw [HS.out]; decide), if_neg (show ¬ (nx 8 R.2).1 = 1 by rw [HS.out]; decide), if_neg (show ¬ (nx 8 R.2).1 = 2 by rw [HS.out]; decide), if_neg (show ¬ (nx 8 R.2).1 = 3 by rw [HS.out]; decide), if_pos HS.out]
    obtain ⟨n1, n2⟩ := knWrap (knOne HD.out HBN.out).1
    obtain ⟨t1, e1⟩ : ∃ s : ByteArray, ⟨([40, 115, 117, 109, 40, 65, 49, 58, 67, 50, 41, 32, 43, 32] ++ rnd R.1.g).toArray⟩ = s := ⟨_, rfl⟩
    obtain ⟨t4, e4⟩ : ∃ s : ByteArray, ⟨([40, 115, 117, 109, 40, 65, 49, 58, 67, 50, 41, 32, 43, 32] ++ rnd R.1.g ++ [41]).toArray⟩ = s := ⟨_, rfl⟩
    have hal := HLN.out
    have k1 := cats (P := Tryz.prog) [40, 115, 117, 109, 40, 65, 49, 58, 67, 50, 41, 32, 43, 32] (rnd R.1.g) (by decide) (by omega)
    have k2 := cats (P := Tryz.prog) ([40, 115, 117, 109, 40, 65, 49, 58, 67, 50, 41, 32, 43, 32] ++ rnd R.1.g) [41] (by simp only [List.length_append, List.length_cons, List.length_nil]; omega) (by decide)
    rw [HSA.out, e1] at k1
    rw [e1, e4] at k2
    have HT4 : Hid (⟨([40, 115, 117, 109, 40, 65, 49, 58, 67, 50, 41, 32, 43, 32] ++ rnd R.1.g ++ [41]).toArray⟩ = t4) := e4
    clear e1 e4 hal
    obtain ⟨y0, y1, y2, y3⟩ := two_cells HA7.out
    obtain ⟨c0, c1, z0, z1, z2, z3⟩ := H3.out.cells
    have HDD := H3.out.done (.string t4) (.int .i64 (24 + R.1.n))
    have HDD : Hid _ := HDD
    go_wp2_with fail
    refine bodyPost_ret (results_cell1 rfl _ _ _ ⟨b4, 0, none⟩ _ _ rfl HDD.out.1) rfl ?_
    rw [HM.out, HE.out]
    refine ⟨?_, HDD.out.2.1, HDD.out.2.2⟩
    rw [← HT4.out, ← rnd_sum R.1.g]
  · clear p3 p4
    have HE : Hid (knG (deep + 1) fd = (⟨tIf :: tOpen :: (((tBad :: tOpen :: (R.1.g ++ [tClose])) ++ tComma :: (dn' 1 ++ tComma :: [tCount, tOpen, tCell 1, tColon, tCell 10, tClose])) ++ [tClose]), ifA (badA' R.1.d) (retA (vI (1 : Nat))) (cntA (rangeL 1 10) (vI 0)), 8⟩, (nx 8 R.2).2)) := by
      unfold Hid
      rw [knG]
      simp only [HR.out]
      rw [if_neg (show ¬ (nx 8 R.2).1 = 0 by rw [HS.out]; decide), if_neg (show ¬ (nx 8 R.2).1 = 1 by rw [HS.out]; decide), if_neg (show ¬ (nx 8 R.2).1 = 2 by rw [HS.out]; decide), if_neg (show ¬ (nx 8 R.2).1 = 3 by rw [HS.out]; decide), if_neg (show ¬ (nx 8 R.2).1 = 4 by rw [HS.out]; decide), if_pos HS.out]
    obtain ⟨t1, e1⟩ : ∃ s : ByteArray, ⟨([105, 102, 40, 98, 97, 100, 40] ++ rnd R.1.g).toArray⟩ = s := ⟨_, rfl⟩
    obtain ⟨t4, e4⟩ : ∃ s : ByteArray, ⟨([105, 102, 40, 98, 97, 100, 40] ++ rnd R.1.g ++ [41, 44, 32, 49, 44, 32, 99, 111, 117, 110, 116, 40, 66, 49, 58, 69, 50, 41, 41]).toArray⟩ = s := ⟨_, rfl⟩
    have hal := HLN.out
    have k1 := cats (P := Tryz.prog) [105, 102, 40, 98, 97, 100, 40] (rnd R.1.g) (by decide) (by omega)
    have k2 := cats (P := Tryz.prog) ([105, 102, 40, 98, 97, 100, 40] ++ rnd R.1.g) [41, 44, 32, 49, 44, 32, 99, 111, 117, 110, 116, 40, 66, 49, 58, 69, 50, 41, 41] (by simp only [List.length_append, List.length_cons, List.length_nil]; omega) (by decide)
    rw [HSA.out, e1] at k1
    rw [e1, e4] at k2
    have HT4 : Hid (⟨([105, 102, 40, 98, 97, 100, 40] ++ rnd R.1.g ++ [41, 44, 32, 49, 44, 32, 99, 111, 117, 110, 116, 40, 66, 49, 58, 69, 50, 41, 41]).toArray⟩ = t4) := e4
    clear e1 e4 hal
    obtain ⟨y0, y1, y2, y3⟩ := two_cells HA7.out
    obtain ⟨c0, c1, z0, z1, z2, z3⟩ := H3.out.cells
    have HDD := H3.out.done (.string t4) (.int .i64 8)
    have HDD : Hid _ := HDD
    go_wp2_with fail
    refine bodyPost_ret (results_cell1 rfl _ _ _ ⟨b4, 0, none⟩ _ _ rfl HDD.out.1) rfl ?_
    rw [HM.out, HE.out]
    refine ⟨?_, HDD.out.2.1, HDD.out.2.2⟩
    rw [← HT4.out, ← rnd_bad R.1.g]
  · clear p3 p4
    have HE : Hid (knG (deep + 1) fd = (⟨tNeg :: tOpen :: (R.1.g ++ [tClose]), negA R.1.d, -R.1.n⟩, (nx 8 R.2).2)) := by
      unfold Hid
      rw [knG]
      simp only [HR.out]
      rw [if_neg (show ¬ (nx 8 R.2).1 = 0 by rw [HS.out]; decide), if_neg (show ¬ (nx 8 R.2).1 = 1 by rw [HS.out]; decide), if_neg (show ¬ (nx 8 R.2).1 = 2 by rw [HS.out]; decide), if_neg (show ¬ (nx 8 R.2).1 = 3 by rw [HS.out]; decide), if_neg (show ¬ (nx 8 R.2).1 = 4 by rw [HS.out]; decide), if_neg (show ¬ (nx 8 R.2).1 = 5 by rw [HS.out]; decide), if_pos HS.out]
    obtain ⟨n1, n2⟩ := knWrap (knOne HD.out HBN.out).2
    obtain ⟨t1, e1⟩ : ∃ s : ByteArray, ⟨([45, 40] ++ rnd R.1.g).toArray⟩ = s := ⟨_, rfl⟩
    obtain ⟨t4, e4⟩ : ∃ s : ByteArray, ⟨([45, 40] ++ rnd R.1.g ++ [41]).toArray⟩ = s := ⟨_, rfl⟩
    have hal := HLN.out
    have k1 := cats (P := Tryz.prog) [45, 40] (rnd R.1.g) (by decide) (by omega)
    have k2 := cats (P := Tryz.prog) ([45, 40] ++ rnd R.1.g) [41] (by simp only [List.length_append, List.length_cons, List.length_nil]; omega) (by decide)
    rw [HSA.out, e1] at k1
    rw [e1, e4] at k2
    have HT4 : Hid (⟨([45, 40] ++ rnd R.1.g ++ [41]).toArray⟩ = t4) := e4
    clear e1 e4 hal
    obtain ⟨y0, y1, y2, y3⟩ := two_cells HA7.out
    obtain ⟨c0, c1, z0, z1, z2, z3⟩ := H3.out.cells
    have HDD := H3.out.done (.string t4) (.int .i64 (-R.1.n))
    have HDD : Hid _ := HDD
    go_wp2_with fail
    refine bodyPost_ret (results_cell1 rfl _ _ _ ⟨b4, 0, none⟩ _ _ rfl HDD.out.1) rfl ?_
    rw [HM.out, HE.out]
    refine ⟨?_, HDD.out.2.1, HDD.out.2.2⟩
    rw [← HT4.out, ← rnd_neg R.1.g]
  · skip
    obtain ⟨B, hB⟩ : ∃ B, knG deep (nx 8 R.2).2 = B := ⟨_, rfl⟩
    have HB : Hid (knG deep (nx 8 R.2).2 = B) := hB
    have hbn : B.1.n.natAbs ≤ KB deep := by rw [← hB]; exact kn_bd (Nat.le_succ_of_le HD.out) _
    have hbl : (rnd B.1.g).length ≤ 1000 := by rw [← hB]; exact kn_small (Nat.le_succ_of_le HD.out) _
    have HE : Hid (knG (deep + 1) fd = (⟨tOpen :: ((R.1.g ++ tOp 0 :: B.1.g) ++ [tClose]), binA 5 R.1.d B.1.d, R.1.n + B.1.n⟩, B.2)) := by
      unfold Hid
      rw [knG]
      simp only [HR.out]
      rw [if_neg (show ¬ (nx 8 R.2).1 = 0 by rw [HS.out]; decide), if_neg (show ¬ (nx 8 R.2).1 = 1 by rw [HS.out]; decide), if_neg (show ¬ (nx 8 R.2).1 = 2 by rw [HS.out]; decide), if_neg (show ¬ (nx 8 R.2).1 = 3 by rw [HS.out]; decide), if_neg (show ¬ (nx 8 R.2).1 = 4 by rw [HS.out]; decide), if_neg (show ¬ (nx 8 R.2).1 = 5 by rw [HS.out]; decide), if_neg (show ¬ (nx 8 R.2).1 = 6 by rw [HS.out]; decide)]
      rw [hB]
    obtain ⟨o1, o2, o3⟩ := knOps HD.out HBN.out hbn
    obtain ⟨n1, n2⟩ := knWrap o1
    obtain ⟨sB, hsB⟩ : ∃ s : ByteArray, ⟨(rnd B.1.g).toArray⟩ = s := ⟨_, rfl⟩
    obtain ⟨t1, e1⟩ : ∃ s : ByteArray, ⟨([40] ++ rnd R.1.g).toArray⟩ = s := ⟨_, rfl⟩
    obtain ⟨t2, e2⟩ : ∃ s : ByteArray, ⟨([40] ++ rnd R.1.g ++ [32, 43, 32]).toArray⟩ = s := ⟨_, rfl⟩
    obtain ⟨t3, e3⟩ : ∃ s : ByteArray, ⟨([40] ++ rnd R.1.g ++ [32, 43, 32] ++ rnd B.1.g).toArray⟩ = s := ⟨_, rfl⟩
    obtain ⟨t4, e4⟩ : ∃ s : ByteArray, ⟨([40] ++ rnd R.1.g ++ [32, 43, 32] ++ rnd B.1.g ++ [41]).toArray⟩ = s := ⟨_, rfl⟩
    have hal := HLN.out
    have k1 := cats (P := Tryz.prog) [40] (rnd R.1.g) (by simp only [List.length_append, List.length_cons, List.length_nil]; omega) (by omega)
    have k2 := cats (P := Tryz.prog) ([40] ++ rnd R.1.g) [32, 43, 32] (by simp only [List.length_append, List.length_cons, List.length_nil]; omega) (by decide)
    have k3 := cats (P := Tryz.prog) ([40] ++ rnd R.1.g ++ [32, 43, 32]) (rnd B.1.g) (by simp only [List.length_append, List.length_cons, List.length_nil]; omega) (by omega)
    have k4 := cats (P := Tryz.prog) ([40] ++ rnd R.1.g ++ [32, 43, 32] ++ rnd B.1.g) [41] (by simp only [List.length_append, List.length_cons, List.length_nil]; omega) (by decide)
    rw [HSA.out, e1] at k1
    rw [e1, e2] at k2
    rw [e2, hsB, e3] at k3
    rw [e3, e4] at k4
    have HT4 : Hid (⟨([40] ++ rnd R.1.g ++ [32, 43, 32] ++ rnd B.1.g ++ [41]).toArray⟩ = t4) := e4
    have HSB : Hid (⟨(rnd B.1.g).toArray⟩ = sB) := hsB
    clear hbn hbl o1 o2 o3 hsB e1 e2 e3 e4 hal hB
    go_wp2_with fail
    refine (HK.out w0 u3 fb (nx 8 R.2).2 hA.out (H3.out.amb hb.out HL.out) H3.out.fd).mono ?_
    rintro e u4 ⟨rfl, g4, f4⟩
    have H4 := H3.out.next g4 f4
    have HA8 : Hid (KnA u4 b6 sA R.1.n) := HA7.out.next g4 HN6.out
    rw [HB.out] at H4
    have H4 : Hid (KnS w0 w fb u4 b4 B.2) := H4
    rw [HB.out, HSB.out]
    clear g4 f4 H3 HA7
    have HLT : Hid (b6 < u4.heap.size) := (Array.getElem?_eq_some_iff.1 HA8.out).1
    have H5 : Hid (KnS w0 w fb (u4.alloc (.cells #[.string sB, .int .i64 B.1.n] 45)) b4 B.2) := H4.out.below (bl1 _ _)
    obtain ⟨y0, y1, y2, y3⟩ := two_cells (show (u4.alloc (.cells #[.string sB, .int .i64 B.1.n] 45)).heap[b6]? = some (.cells #[.string sA, .int .i64 R.1.n] 45 (0, 0)) by rw [Below.heap_alloc _ _ _ HLT.out]; exact HA8.out)
    obtain ⟨c0, c1, z0, z1, z2, z3⟩ := H5.out.cells
    have HDD := H5.out.done (.string t4) (.int .i64 (R.1.n + B.1.n))
    have HDD : Hid _ := HDD
    go_wp2_with fail
    refine bodyPost_ret (results_cell1 rfl _ _ _ ⟨b4, 0, none⟩ _ _ rfl HDD.out.1) rfl ?_
    rw [HM.out, HE.out]
    refine ⟨?_, HDD.out.2.1, HDD.out.2.2⟩
    rw [← HT4.out, ← rnd_two (j := 0) (x := [32, 43, 32]) R.1.g B.1.g rfl]
end Go.Proofs.YtiocnfambeochaaGreatDoor
