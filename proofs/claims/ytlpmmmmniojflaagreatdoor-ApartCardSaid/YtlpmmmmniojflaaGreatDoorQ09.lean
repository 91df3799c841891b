/- Texts put together. -/
import Derived.Test.YtlpmmmmniojflaaGreatDoorValB
import Derived.Test.YtlpmmmmniojflaaGreatDoorQ04
import Derived.Test.YtlpmmmmniojflaaGreatDoorQ08
import Derived.RegionTactic
import Derived.BigRegion
import Derived.Test.YtlpmmmmniojflaaGreatDoorQ02
import Derived.Deep.RegionLaw
import Derived.Deep.AppendLies
/- The machine in memory: its stack of values; top, take, put. -/
set_option linter.unusedVariables false
set_option linter.unusedSimpArgs false
namespace Go.Proofs.YtlpmmmmniojflaaGreatDoor
open Go.RowKit
def vC (v : V) : List Value := [.int .i64 v.k, .int .i64 v.n, .string v.s]
def gC (g : Nat × Nat) : List Value := [.int .i64 g.1, .int .i64 g.2]
def insC (i : Ins) : List Value := [.int .i64 i.op, .int .i64 i.v.k, .int .i64 i.v.n, .string i.v.s, .int .i64 i.cell, .int .i64 i.to]
structure Chg (own : Nat → Nat) (C : Nat → Prop) (b lo hi : Nat) (w w' : World) : Prop where
  os : w'.os = w.os
  tape : w'.tape = w.tape
  output : w'.output = w.output
  size : w.heap.size ≤ w'.heap.size
  blk : ∀ k, k < w.heap.size → k ≠ b → ¬ C (own k) → w'.heap[k]? = w.heap[k]?
  row : ∀ cs t, w.heap[b]? = some (.cells cs t (0, 0)) → ∃ cs', w'.heap[b]? = some (.cells cs' t (0, 0)) ∧ cs'.size = cs.size ∧ ∀ j, (j < lo ∨ hi ≤ j) → cs'[j]? = cs[j]?
section
variable {own own' : Nat → Nat} {C C' : Nat → Prop} {b lo hi : Nat} {w w1 w2 : World}
theorem Chg.refl (own : Nat → Nat) (C : Nat → Prop) (b lo hi : Nat) (w : World) : Chg own C b lo hi w w := ⟨rfl, rfl, rfl, Nat.le_refl _, fun _ _ _ _ => rfl, fun cs t h => ⟨cs, h, rfl, fun _ _ => rfl⟩⟩
theorem Chg.trans (h : Chg own C b lo hi w w1) (g : Chg own' C b lo hi w1 w2) (ho : ∀ k, k < w.heap.size → own' k = own k) : Chg own C b lo hi w w2 :=
  ⟨g.os.trans h.os, g.tape.trans h.tape, g.output.trans h.output, Nat.le_trans h.size g.size,
    fun k hk hb hc => (g.blk k (Nat.lt_of_lt_of_le hk h.size) hb (by rw [ho k hk]; exact hc)).trans (h.blk k hk hb hc),
    fun cs t hc => by
      obtain ⟨c1, a1, a2, a3⟩ := h.row cs t hc
      obtain ⟨c2, b1, b2, b3⟩ := g.row c1 t a1
      exact ⟨c2, b1, by rw [b2, a2], fun j hj => by rw [b3 j hj, a3 j hj]⟩⟩
theorem Chg.mono {lo' hi' : Nat} (h : Chg own C b lo hi w w1) (hC : ∀ c, C c → C' c) (h1 : lo' ≤ lo) (h2 : hi ≤ hi') : Chg own C' b lo' hi' w w1 :=
  ⟨h.os, h.tape, h.output, h.size, fun k hk hb hc => h.blk k hk hb (fun h => hc (hC _ h)), fun cs t hc => by
    obtain ⟨c1, a1, a2, a3⟩ := h.row cs t hc
    exact ⟨c1, a1, a2, fun j hj => a3 j (by omega)⟩⟩
theorem Chg.below (h : Below w.heap.size w w1) (hb : b < w.heap.size) : Chg own C b lo hi w w1 :=
  ⟨h.os, h.tape, h.output, h.size, fun k hk _ _ => h.block k hk, fun cs t hc => ⟨cs, by rw [h.block b hb]; exact hc, rfl, fun _ _ => rfl⟩⟩
theorem Chg.set (w : World) (b : Nat) (j : Nat) (v : Value) (own : Nat → Nat) (C : Nat → Prop) : Chg own C b j (j + 1) w (w.setCell ⟨b, j, none⟩ v) :=
  ⟨rfl, rfl, rfl, by simp [World.setCell], fun k _ hk _ => Below.heap_setCell _ _ _ _ hk, fun cs t hc => by
    have hlt := (Array.getElem?_eq_some_iff.1 hc).1
    have h' : w.heap[b] = .cells cs t (0, 0) := (Array.getElem?_eq_some_iff.1 hc).2
    refine ⟨cs.setIfInBounds j v, ?_, by simp, fun i hi => Array.getElem?_setIfInBounds_ne (by omega)⟩
    show (w.heap.modify b _)[b]? = _
    rw [Array.getElem?_eq_getElem (by simpa using hlt), Array.getElem_modify_self, h']
    rfl⟩
theorem Chg.cell (h : Chg own C b lo hi w w1) {cs : Array Value} {t : TypeId} (hb : w.heap[b]? = some (.cells cs t (0, 0))) {j : Nat} (hj : j < lo ∨ hi ≤ j) : w1.cell? ⟨b, j, none⟩ = w.cell? ⟨b, j, none⟩ := by
  obtain ⟨c1, a1, a2, a3⟩ := h.row cs t hb
  rw [cell_of_row w1 b j c1 t (0, 0) a1, cell_of_row w b j cs t (0, 0) hb, a3 j hj]
end
structure SlC (w : World) (own : Nat → Nat) (b col : Nat) (e : TypeId) (size : Nat) (v : Value) (n : Nat) (xs : List Value) : Prop where
  sl : Slc w e size v n xs
  col : ∀ g, v.ownBlock = some g → own g = col ∧ g ≠ b
theorem SlC.chg {own : Nat → Nat} {C : Nat → Prop} {b lo hi : Nat} {w w1 : World} {col : Nat} {e : TypeId} {size : Nat} {v : Value} {n : Nat} {xs : List Value} (h : SlC w own b col e size v n xs) (g : Chg own C b lo hi w w1) (hc : ¬ C col) : SlC w1 own b col e size v n xs :=
  ⟨h.sl.kept fun k hk => g.blk k (h.sl.lt k hk) (h.col k hk).2 (by rw [(h.col k hk).1]; exact hc), h.col⟩
theorem SlC.own {own own' : Nat → Nat} {b : Nat} {w : World} {col : Nat} {e : TypeId} {size : Nat} {v : Value} {n : Nat} {xs : List Value} (h : SlC w own b col e size v n xs) (ho : ∀ k, k < w.heap.size → own' k = own k) : SlC w own' b col e size v n xs :=
  ⟨h.sl, fun g hg => ⟨by rw [ho g (h.sl.lt g hg)]; exact (h.col g hg).1, (h.col g hg).2⟩⟩
def VS (w : World) (own : Nat → Nat) (b o cv : Nat) (l : List V) : Prop := ∃ v, w.cell? ⟨b, o + 5, none⟩ = some v ∧ SlC w own b cv 52 3 v l.length (l.flatMap vC)
def Blk (w : World) (b o : Nat) : Prop := ∃ cs t, w.heap[b]? = some (.cells cs t (0, 0)) ∧ o + 7 ≤ cs.size
theorem Blk.lt {w : World} {b o : Nat} (h : Blk w b o) : b < w.heap.size := by obtain ⟨cs, t, h1, _⟩ := h; exact (Array.getElem?_eq_some_iff.1 h1).1
theorem Blk.chg {own : Nat → Nat} {C : Nat → Prop} {b o lo hi : Nat} {w w1 : World} (h : Blk w b o) (g : Chg own C b lo hi w w1) : Blk w1 b o := by
  obtain ⟨cs, t, h1, h2⟩ := h
  obtain ⟨c1, a1, a2, _⟩ := g.row cs t h1
  exact ⟨c1, t, a1, by omega⟩
theorem Blk.frozen {w : World} {b o : Nat} (h : Blk w b o) (j : Nat) : w.frozen? ⟨b, j, none⟩ = false := by obtain ⟨cs, t, h1, _⟩ := h; simp [World.frozen?, h1]
theorem Blk.cell {w : World} {b o : Nat} (h : Blk w b o) {j : Nat} (hj : j < o + 7) : ∃ v, w.cell? ⟨b, j, none⟩ = some v := by
  obtain ⟨cs, t, h1, h2⟩ := h
  exact ⟨cs[j]'(by omega), by rw [cell_of_row w b j cs t (0, 0) h1]; exact Array.getElem?_eq_getElem _⟩
theorem flat3_get {α : Type} {f : α → List Value} {m : Nat} (hf : ∀ a, (f a).length = m) : ∀ (l : List α) (i : Nat) (a : α) (t : Nat) (u : Value), l[i]? = some a → (f a)[t]? = some u → (l.flatMap f)[i * m + t]? = some u
  | [], i, a, t, u, h, _ => by simp at h
  | x :: l, 0, a, t, u, h, hu => by
    simp at h; subst h
    rw [Nat.zero_mul, Nat.zero_add, List.flatMap_cons, List.getElem?_append_left (by rw [List.getElem?_eq_some_iff] at hu; exact hu.1)]; exact hu
  | x :: l, i + 1, a, t, u, h, hu => by
    rw [List.getElem?_cons_succ] at h
    rw [List.flatMap_cons, List.getElem?_append_right (by rw [hf]; rw [Nat.succ_mul]; omega), hf, show (i + 1) * m + t - m = i * m + t by rw [Nat.succ_mul]; omega]
    exact flat3_get hf l i a t u h hu
theorem flatLen3 {α : Type} {f : α → List Value} {m : Nat} (hf : ∀ a, (f a).length = m) : ∀ (l : List α), (l.flatMap f).length = l.length * m
  | [] => by simp
  | x :: l => by rw [List.flatMap_cons, List.length_append, hf, flatLen3 hf l, List.length_cons, Nat.succ_mul]; omega
theorem Slc.at {w : World} {e : TypeId} {size : Nat} {v : Value} {n : Nat} {xs : List Value} (h : Slc w e size v n xs) (hn : 0 < n) : ∃ g o cap, v = .slice (some ⟨g, o, none⟩) n cap ∧ n ≤ cap := by
  rcases h.2 with ⟨_, h0⟩ | ⟨g, o, cap, cur, rfl, _, hc, _⟩
  · omega
  · exact ⟨g, o, cap, rfl, hc⟩
theorem Slc.cut {w : World} {e : TypeId} {size : Nat} {g o n cap : Nat} {xs : List Value} (h : Slc w e size (.slice (some ⟨g, o, none⟩) n cap) n xs) {m : Nat} (hm : m ≤ n) : Slc w e size (.slice (some ⟨g, o, none⟩) m cap) m (xs.take (m * size)) := by
  rcases h.2 with ⟨h0, _⟩ | ⟨g', o', cap', cur, h0, h1, h2, h3, h4, h5⟩
  · cases h0
  · cases h0
    refine ⟨?_, .inr ⟨g, o, cap, cur, rfl, h1, by omega, h3, h4, ?_⟩⟩
    · rw [List.length_take, h.1]; exact Nat.min_eq_left (Nat.mul_le_mul_right _ hm)
    · rw [← h5, List.take_take, Nat.min_eq_left (Nat.mul_le_mul_right _ hm)]
theorem flatTake3 {α : Type} {f : α → List Value} {m : Nat} (hf : ∀ a, (f a).length = m) (l r : List α) : ((l ++ r).flatMap f).take (l.length * m) = l.flatMap f := by
  rw [List.flatMap_append, ← flatLen3 hf l, List.take_left]
theorem vC_len (v : V) : (vC v).length = 3 := rfl
theorem Slc.max {w : World} {e : TypeId} {size : Nat} {v : Value} {n : Nat} {xs : List Value} (h : Slc w e size v n xs) : n ≤ maxLen := by
  rcases h.2 with ⟨_, rfl⟩ | ⟨g, o, cap, cur, rfl, _, h1, h2, _⟩
  · exact Nat.zero_le _
  · omega
theorem al {w : World} {a : Addr} {v : Value} (h : w.cell? a = some v) (z : Obj) : (w.alloc z).cell? a = some v := by
  rw [World.cell?_alloc_lt _ _ _ (World.block_lt_of_cell? w _ h)]; exact h
theorem afz {w : World} {b j : Nat} (h : w.frozen? ⟨b, j, none⟩ = false) (hb : b < w.heap.size) (z : Obj) : (w.alloc z).frozen? ⟨b, j, none⟩ = false := by
  rw [← h]
  exact World.frozen?_of_block (w := w) (Below.heap_alloc w z b hb)
theorem cell_ne {b q : Nat} (h : q ≠ b) (W : World) (v : Value) (j i : Nat) : (W.setCell ⟨b, j, none⟩ v).cell? ⟨q, i, none⟩ = W.cell? ⟨q, i, none⟩ := World.cell?_of_block (w := W) (Below.heap_setCell W _ v q h)
theorem rset {w : World} {b k : Nat} {cs : Array Value} {u : Value} {t : TypeId} (h : w.heap[b]? = some (.cells cs t (0, 0))) : (w.setCell ⟨b, k, none⟩ u).heap[b]? = some (.cells (cs.setIfInBounds k u) t (0, 0)) := by
  have hlt := (Array.getElem?_eq_some_iff.1 h).1
  have h' : w.heap[b] = .cells cs t (0, 0) := (Array.getElem?_eq_some_iff.1 h).2
  show (w.heap.modify b _)[b]? = _
  rw [Array.getElem?_eq_getElem (by simpa using hlt), Array.getElem_modify_self, h']
  rfl
theorem rnew (w : World) (cs : Array Value) (t : TypeId) : (w.alloc (.cells cs t)).heap[w.heap.size]? = some (.cells cs t (0, 0)) := heap_alloc_new w _
theorem rold {w : World} {q : Nat} {ob : Obj} (h : w.heap[q]? = some ob) (z : Obj) : (w.alloc z).heap[q]? = some ob := by
  rw [Below.heap_alloc _ _ _ ((Array.getElem?_eq_some_iff.1 h).1)]; exact h
theorem rne {w : World} {q b j : Nat} {ob : Obj} {v : Value} (h : w.heap[q]? = some ob) (hne : q ≠ b) : (w.setCell ⟨b, j, none⟩ v).heap[q]? = some ob := by
  rw [Below.heap_setCell _ _ _ _ hne]; exact h
theorem rdrew {w : World} {q : Nat} {ob : Obj} (h : w.heap[q]? = some ob) : w.drew.heap[q]? = some ob := h
theorem info52 : (Tryz.prog.info? 52).map (·.size) = some 3 := by kernel_rfl
set_option maxRecDepth 100000 in
theorem load52 {W : World} {q : Nat} {cs : Array Value} {t : TypeId} (h : W.heap[q]? = some (.cells cs t (0, 0))) (hs : cs.size = 3) : (loadVar 52 ⟨q, 0, none⟩).run Tryz.prog W = .ok (.agg cs) W :=
  run_loadVar_row _ _ t 52 cs (0, 0) _ h Tryz.underlying52 rfl (by rw [hs]; exact info52)
section
variable {own : Nat → Nat} {C : Nat → Prop} {b lo hi : Nat} {w W : World}
theorem Chg.al (h : Chg own C b lo hi w W) (hb : b < w.heap.size) (z : Obj) : Chg own C b lo hi w (W.alloc z) :=
  h.trans (own' := own) (Chg.below (bl1 W z) (Nat.lt_of_lt_of_le hb h.size)) (fun _ _ => rfl)
theorem Chg.drew (h : Chg own C b lo hi w W) : Chg own C b lo hi w W.drew := ⟨h.os, h.tape, h.output, h.size, h.blk, h.row⟩
theorem Chg.fresh (h : Chg own C b lo hi w W) {q i : Nat} (hq : w.heap.size ≤ q) (hb : b < w.heap.size) (v : Value) : Chg own C b lo hi w (W.setCell ⟨q, i, none⟩ v) :=
  ⟨h.os, h.tape, h.output, by simp [World.setCell]; exact h.size, fun k hk hkb hc => by rw [Below.heap_setCell _ _ _ _ (by show k ≠ q; omega)]; exact h.blk k hk hkb hc, fun cs t hc => by
    obtain ⟨c1, a1, a2, a3⟩ := h.row cs t hc
    exact ⟨c1, by rw [Below.heap_setCell _ _ _ _ (by show b ≠ q; omega)]; exact a1, a2, a3⟩⟩
theorem Chg.put (h : Chg own C b lo hi w W) {j : Nat} (h1 : lo ≤ j) (h2 : j < hi) (v : Value) : Chg own C b lo hi w (W.setCell ⟨b, j, none⟩ v) :=
  ⟨h.os, h.tape, h.output, by simp [World.setCell]; exact h.size, fun k hk hkb hc => by rw [Below.heap_setCell _ _ _ _ hkb]; exact h.blk k hk hkb hc, fun cs t hc => by
    obtain ⟨c1, a1, a2, a3⟩ := h.row cs t hc
    exact ⟨_, rset a1, by rw [Array.size_setIfInBounds, a2], fun i hi => by rw [Array.getElem?_setIfInBounds_ne (by omega)]; exact a3 i hi⟩⟩
end
theorem vs_last {w : World} {own : Nat → Nat} {b o cv : Nat} {l : List V} {y : V} (h : VS w own b o cv (l ++ [y])) : ∃ g p cap, w.cell? ⟨b, o + 5, none⟩ = some (.slice (some ⟨g, p, none⟩) (l.length + 1) cap) ∧ l.length + 1 ≤ cap ∧ l.length + 1 ≤ maxLen ∧
    w.cell? ⟨g, p + l.length * 3, none⟩ = some (.int .i64 y.k) ∧ w.cell? ⟨g, p + l.length * 3 + 1, none⟩ = some (.int .i64 y.n) ∧ w.cell? ⟨g, p + l.length * 3 + 2, none⟩ = some (.string y.s) := by
  obtain ⟨v, hv, hs⟩ := h
  obtain ⟨g, p, cap, rfl, hcap⟩ := hs.sl.at (by simp)
  have c0 := hs.sl.cell _ _ (flat3_get vC_len (l ++ [y]) l.length y 0 _ (by simp) rfl)
  have c1 := hs.sl.cell _ _ (flat3_get vC_len (l ++ [y]) l.length y 1 _ (by simp) rfl)
  have c2 := hs.sl.cell _ _ (flat3_get vC_len (l ++ [y]) l.length y 2 _ (by simp) rfl)
  have e : (l ++ [y]).length = l.length + 1 := by simp
  have hm := hs.sl.max
  rw [e] at hv hcap hm
  exact ⟨g, p, cap, hv, hcap, hm, c0, by rw [Nat.add_assoc]; exact c1, by rw [Nat.add_assoc]; exact c2⟩
theorem vs_cut {w w' : World} {own : Nat → Nat} {C : Nat → Prop} {b o cv lo hi g p cap : Nat} {l : List V} {y : V} (hB : Blk w b o) (h : VS w own b o cv (l ++ [y])) (hv : w.cell? ⟨b, o + 5, none⟩ = some (.slice (some ⟨g, p, none⟩) (l.length + 1) cap))
    (hch : Chg own C b lo hi w w') (hn : w'.cell? ⟨b, o + 5, none⟩ = some (.slice (some ⟨g, p, none⟩) l.length cap)) (hC : ¬ C cv := by intro h; exact h) : VS w' own b o cv l := by
  obtain ⟨v, hv', hs⟩ := h
  rw [hv] at hv'
  cases hv'
  refine ⟨_, hn, SlC.chg (C := C) (lo := lo) (hi := hi) (w := w) ⟨?_, fun k hk => hs.col k hk⟩ hch hC⟩
  have hsl := hs.sl
  have e : (l ++ [y]).length = l.length + 1 := by simp
  rw [e] at hsl
  have := hsl.cut (m := l.length) (by omega)
  rw [flatTake3 vC_len] at this
  exact this
set_option maxHeartbeats 1000000 in
theorem top_w (w : World) (own : Nat → Nat) (b o cv : Nat) (l : List V) (y : V) (hV : Hid (VS w own b o cv (l ++ [y]))) :
    Calls Tryz.prog 206 #[.pointer (some ⟨b, o, none⟩)] w fun e w' => e = .returned (vV y) ∧ Below w.heap.size w w' := by
  obtain ⟨g, p, cap, hv, hcap, hm, c0, c1, c2⟩ := vs_last hV.out
  unfold maxLen at hm
  have h1 : 0 ≤ (l.length : Int) := by omega
  have h2 : (l.length : Int) < (l.length : Int) + 1 := by omega
  have hw1 : wrap64 ((l.length : Int) + 1 - 1) = l.length := by unfold wrap64; omega
  have hw2 : IntKind.i64.wrap ((l.length : Int) + 1 - 1) = l.length := by rw [IntKind.wrap_i64]; omega
  have hsub : (l.length : Int) + 1 - 1 = l.length := by omega
  have hw3 : IntKind.i64.wrap (l.length : Int) = l.length := by rw [IntKind.wrap_i64]; omega
  have hv' := fun z => al hv z
  have c0' := fun z => al c0 z
  have c1' := fun z => al c1 z
  have c2' := fun z => al c2 z
  clear hv c0 c1 c2
  unfold vV
  go_enter Tryz.func206, Tryz.ntmps206
  go_wp2_with fail
  go_region
  all_goals
    go_wp2_with fail
    go_returns
    exact ⟨rfl, (bl1 _ _).drew⟩
set_option maxHeartbeats 2000000 in
theorem take_w (w : World) (own : Nat → Nat) (b o cv : Nat) (l : List V) (y : V) (hB : Hid (Blk w b o)) (hV : Hid (VS w own b o cv (l ++ [y]))) :
    Calls Tryz.prog 223 #[.pointer (some ⟨b, o, none⟩)] w fun e w' => e = .returned (vV y) ∧ Hid (VS w' own b o cv l) ∧ Hid (Chg own (fun _ => False) b (o + 5) (o + 6) w w') := by
  obtain ⟨g, p, cap, hv, hcap, hm, c0, c1, c2⟩ := vs_last hV.out
  unfold maxLen at hm
  have h1 : 0 ≤ (l.length : Int) := by omega
  have h2 : (l.length : Int) < (l.length : Int) + 1 := by omega
  have hw1 : wrap64 ((l.length : Int) + 1 - 1) = l.length := by unfold wrap64; omega
  have hw2 : IntKind.i64.wrap ((l.length : Int) + 1 - 1) = l.length := by rw [IntKind.wrap_i64]; omega
  have hsub : (l.length : Int) + 1 - 1 = l.length := by omega
  have hw3 : IntKind.i64.wrap (l.length : Int) = l.length := by rw [IntKind.wrap_i64]; omega
  have hb := hB.out.lt
  have n1 : b ≠ w.heap.size := by omega
  have n2 : w.heap.size ≠ b := by omega
  have n3 : b ≠ w.heap.size + 1 := by omega
  have n4 : w.heap.size + 1 ≠ b := by omega
  have m1 := cell_ne n2
  have m2 := cell_ne n4
  have hfz := fun z1 z2 z3 => afz (afz (afz (hB.out.frozen (o + 5)) hb z1) (by simp; omega) z2) (by simp; omega) z3
  have hcap2 : l.length ≤ cap := by omega
  have hv' := fun z => al hv z
  have hv'' := fun z1 z2 => al (al hv z1) z2
  have hv3 := fun z1 z2 z3 => al (al (al hv z1) z2) z3
  have c0' := fun z1 z2 => al (al c0 z1) z2
  have c1' := fun z1 z2 => al (al c1 z1) z2
  have c2' := fun z1 z2 => al (al c2 z1) z2
  have c03 := fun z1 z2 z3 => al (al (al c0 z1) z2) z3
  have c13 := fun z1 z2 z3 => al (al (al c1 z1) z2) z3
  have c23 := fun z1 z2 z3 => al (al (al c2 z1) z2) z3
  clear c0 c1 c2
  unfold vV
  go_enter Tryz.func223, Tryz.ntmps223
  have HN : Hid (b < w.heap.size) := hb
  go_wp2
  go_region
  all_goals
    go_wp2
    go_region
  all_goals
    go_wp2
    refine bodyPost_ret (results_cell1 rfl _ _ _ ⟨w.heap.size, 0, none⟩ _ _ rfl (load52 (rdrew (rdrew (rset (rset (rset (rne (rold (rold (rnew _ _ _) _) _) n2)))))) rfl)) rfl ?_
    have hch : Chg own (fun _ => False) b (o + 5) (o + 6) w (((((((w.alloc (Obj.cells #[Value.int IntKind.i64 0, Value.int IntKind.i64 0, Value.string { data := #[] }] 52)).alloc (Obj.cells #[Value.int IntKind.i64 y.k, Value.int IntKind.i64 y.n, Value.string y.s] 52)).alloc (Obj.cells #[Value.int IntKind.i64 y.k, Value.int IntKind.i64 y.n, Value.string y.s] 52)).setCell ⟨b, o + 5, none⟩ (.slice (some ⟨g, p, none⟩) l.length cap)).setCell ⟨w.heap.size, 0, none⟩ (.int .i64 y.k)).setCell ⟨w.heap.size, 1, none⟩ (.int .i64 y.n)).setCell ⟨w.heap.size, 2, none⟩ (.string y.s)).drew.drew :=
      ((((((((((Chg.refl own (fun _ => False) b (o + 5) (o + 6) w).al hb _).al hb _).al hb _).put (by omega) (by omega) _).fresh (Nat.le_refl _) hb _).fresh (Nat.le_refl _) hb _).fresh (Nat.le_refl _) hb _).drew).drew)
    exact ⟨rfl, vs_cut hB.out hV.out hv hch (by
      obtain ⟨cs, t, k1, k2⟩ := hB.out
      rw [cell_of_row _ b (o + 5) _ t (0, 0) (rdrew (rdrew (rne (rne (rne (rset (rold (rold (rold k1 _) _) _)) n1) n1) n1)))]
      rw [Array.getElem?_setIfInBounds_self_of_lt (by omega)]), hch⟩
end Go.Proofs.YtlpmmmmniojflaaGreatDoor
/- 'place'; the cells: 'Number', 'Area'. -/
namespace Go.Proofs.YtlpmmmmniojflaaGreatDoor
open Go.RowKit
def plcAt (ts : List Tk) (i : Nat) (n : Nat) : Nat := match ts[i]? with | some t => t.p | none => n
set_option maxHeartbeats 1000000 in
theorem place_any (w : World) (B pb : Nat) (v : Value) (ts : List Tk) (i d n : Nat) (h : Hid (PW w B pb v ts i d)) :
    Calls Tryz.prog 94 #[.pointer (some ⟨pb, 0, none⟩), .int .i64 n] w fun e w' => e = .returned (.int .i64 (plcAt ts i n)) ∧ ∃ n, w' = w.drewN n := by
  have c0 := h.out.c0
  have c1 := h.out.c1
  have hle := h.out.le
  have hsm := h.out.small
  rcases h.out.list with ⟨rfl, rfl⟩ | ⟨g, cap, rfl, hg, hcap, hc⟩
  · have hi : i = 0 := by simpa using hle
    subst hi
    go_enter Tryz.func94, Tryz.ntmps94
    go_wp2
    go_quiet (fail)
    go_wp2
    go_ret
    exact ⟨rfl, _, rfl⟩
  · by_cases hlt : i < ts.length
    · obtain ⟨t, ht⟩ : ∃ t, ts[i]? = some t := ⟨_, List.getElem?_eq_getElem hlt⟩
      obtain ⟨_, _, k0⟩ := hc i t ht
      have hk : Hid (plcAt ts i n = t.p) := by unfold Hid plcAt; rw [ht]
      have hlti : (i : Int) < (ts.length : Int) := by omega
      clear hc ht
      go_enter Tryz.func94, Tryz.ntmps94
      go_wp2
      go_quiet (fail)
      go_wp2
      go_quiet (fail)
      go_wp2
      go_ret
      rw [hk.out]
      exact ⟨rfl, _, by rw [World.drewN_drewN]⟩
    · have hlti : ¬ (i : Int) < (ts.length : Int) := by omega
      have hk : Hid (plcAt ts i n = n) := by unfold Hid plcAt; rw [List.getElem?_eq_none (by omega)]
      clear hc
      go_enter Tryz.func94, Tryz.ntmps94
      go_wp2
      go_quiet (fail)
      go_wp2
      go_ret
      rw [hk.out]
      exact ⟨rfl, _, rfl⟩
def cnI (a b : Int) : Int × Bool := if 65 ≤ a ∧ a ≤ 70 ∧ 49 ≤ b ∧ b ≤ 56 then ((b - 49) * 6 + (a - 65), true) else (0, false)
def cn (l : List UInt8) : Int × Bool :=
  match l with
  | [a, b] => cnI (a.toNat : Int) (b.toNat : Int)
  | _ => (0, false)
theorem cn_short (s : ByteArray) (h : s.size ≠ 2) : cn s.data.toList = (0, false) := by
  have hl := len_eq s
  match hs : s.data.toList with
  | [] => rfl
  | [_] => rfl
  | [_, _] => rw [hs] at hl; simp at hl; omega
  | _ :: _ :: _ :: _ => rfl
theorem cn_two (s : ByteArray) (h : s.size = 2) (h0 : 0 < s.size) (h1 : 1 < s.size) : cn s.data.toList = cnI (s[0].toNat : Int) (s[1].toNat : Int) := by
  have g0 := drop_at s 0 h0
  have g1 := drop_at s 1 h1
  have g2 := drop_end s
  rw [h] at g2
  simp only [List.drop_zero, Nat.zero_add] at g0 g1
  rw [g2] at g1
  rw [g1] at g0
  rw [g0]
  rfl
theorem wrap_byte (c : UInt8) (k : Int) (h0 : 0 ≤ k) (h1 : k ≤ 256) : wrap64 (wrap64 (c.toNat : Int) - k) = (c.toNat : Int) - k := by
  have := c.toNat_lt
  unfold wrap64; omega
set_option maxHeartbeats 1000000 in
theorem number_cell (s : ByteArray) (w : World) :
    Calls Tryz.prog 44 #[.string s] w fun e w' => e = .returned (.tuple #[.int .i64 (cn s.data.toList).1, .bool (cn s.data.toList).2]) ∧ ∃ n, w' = w.drewN n := by
  by_cases h2 : s.size = 2
  · have h0 : 0 < s.size := by omega
    have h1 : 1 < s.size := by omega
    have HC : Hid _ := cn_two s h2 h0 h1
    have hz : ((s.size : Int) != 2) = false := by simpa using (by omega : (s.size : Int) = 2)
    have h0i : (0 : Int) < (s.size : Int) := by omega
    have h1i : (1 : Int) < (s.size : Int) := by omega
    clear h2
    go_enter Tryz.func44, Tryz.ntmps44
    go_wp2
    go_quiet (fail)
    have w0 : wrap64 (wrap64 (s[0].toNat : Int) - 65) = (s[0].toNat : Int) - 65 := wrap_byte s[0] 65 (by omega) (by omega)
    have w1 : wrap64 (wrap64 (s[1].toNat : Int) - 49) = (s[1].toNat : Int) - 49 := wrap_byte s[1] 49 (by omega) (by omega)
    rw [w0, w1]
    clear w0 w1
    generalize wrap64 (s[0].toNat : Int) = p0
    generalize wrap64 (s[1].toNat : Int) = p1
    generalize (s[0].toNat : Int) = a at *
    generalize (s[1].toNat : Int) = b at *
    by_cases ha1 : a - 65 < 0
    · go_wp2
      go_ret2
      rw [HC.out, cnI, if_neg (by omega)]
      exact ⟨rfl, _, rfl⟩
    by_cases ha2 : 6 ≤ a - 65
    · go_wp2
      go_ret2
      rw [HC.out, cnI, if_neg (by omega)]
      exact ⟨rfl, _, rfl⟩
    by_cases hb1 : b - 49 < 0
    · go_wp2
      go_ret2
      rw [HC.out, cnI, if_neg (by omega)]
      exact ⟨rfl, _, rfl⟩
    by_cases hb2 : 8 ≤ b - 49
    · go_wp2
      go_ret2
      rw [HC.out, cnI, if_neg (by omega)]
      exact ⟨rfl, _, rfl⟩
    go_wp2
    go_ret2
    rw [HC.out, cnI, if_pos (by omega)]
    exact ⟨rfl, _, rfl⟩
  · have HC : Hid _ := cn_short s h2
    have hz : ((s.size : Int) != 2) = true := by simpa using (by omega : (s.size : Int) ≠ 2)
    clear h2
    go_enter Tryz.func44, Tryz.ntmps44
    go_wp2
    go_ret2
    rw [HC.out]
    exact ⟨rfl, 0, rfl⟩
def arI (x y : Int × Bool) : Int :=
  if x.2 = true then if y.2 = true then if y.1 % 6 - x.1 % 6 + 1 < 1 then 0 else if y.1 / 6 - x.1 / 6 + 1 < 1 then 0 else (y.1 % 6 - x.1 % 6 + 1) * (y.1 / 6 - x.1 / 6 + 1) else 0 else 0
end Go.Proofs.YtlpmmmmniojflaaGreatDoor
/- Range and Area, walked. -/
set_option linter.unusedVariables false
set_option linter.unusedSimpArgs false
namespace Go.Proofs.YtlpmmmmniojflaaGreatDoor
open Go.RowKit
theorem cn_cellN (l : List UInt8) : cn l = match cellN l with | some c => ((c : Int), true) | none => (0, false) := by
  match l with
  | [] => rfl
  | [_] => rfl
  | [a, b] =>
    unfold cn cellN cnI
    dsimp only
    by_cases h : 65 ≤ a.toNat ∧ a.toNat ≤ 70 ∧ 49 ≤ b.toNat ∧ b.toNat ≤ 56
    · rw [if_pos h, if_pos (by omega)]
      dsimp only
      congr 1
      omega
    · rw [if_neg h, if_neg (by omega)]
  | _ :: _ :: _ :: _ => rfl
theorem Tryz.info3 : (Tryz.prog.info? 3).map (fun i => (i.zero, i.size, i.bytes)) = some (some (.int .i64 0), 1, 8) := by kernel_rfl
def intV (c : Nat) : Value := .int .i64 c
def rngAt (a b i j : Nat) : List Nat := ((List.range' (a / 6) i).flatMap fun row => (List.range' (a % 6) (b % 6 + 1 - a % 6)).map fun col => row * 6 + col) ++ (List.range' (a % 6) j).map fun col => (a / 6 + i) * 6 + col
theorem rngAt_len (a b i j : Nat) : (rngAt a b i j).length = i * (b % 6 + 1 - a % 6) + j := by
  unfold rngAt
  rw [List.length_append, List.length_map, List.length_range']
  congr 1
  induction i with
  | zero => simp
  | succ i ih => rw [List.range'_concat, List.flatMap_append, List.length_append, ih]; simp [Nat.succ_mul]
theorem rngAt_next (a b i j : Nat) : rngAt a b i (j + 1) = rngAt a b i j ++ [(a / 6 + i) * 6 + (a % 6 + j)] := by
  unfold rngAt
  rw [List.range'_concat, List.map_append, List.append_assoc]
  simp
theorem rngAt_row (a b i : Nat) : rngAt a b i (b % 6 + 1 - a % 6) = rngAt a b (i + 1) 0 := by
  unfold rngAt
  rw [List.range'_concat, List.flatMap_append]
  simp
theorem rngAt_all (a b : Nat) : rngAt a b (b / 6 + 1 - a / 6) 0 = rangeL a b := by
  unfold rngAt rangeL
  simp
set_option maxHeartbeats 1000000 in
theorem range_any (s t : ByteArray) (a b : Nat) (hs : cellN s.data.toList = some a) (ht : cellN t.data.toList = some b) (w : World) :
    Calls Tryz.prog 157 #[.string s, .string t] w fun e w' => ∃ v, e = .returned v ∧ Below w.heap.size w w' ∧ Slc w' 3 1 v (rangeL a b).length ((rangeL a b).map intV) ∧ ∀ g, v.ownBlock = some g → w.heap.size ≤ g := by
  obtain ⟨i0, hi, hz0, hz1, hz2⟩ := info_parts Tryz.info3
  have HX : Hid (cn s.data.toList = ((a : Int), true)) := by unfold Hid; rw [cn_cellN, hs]
  have HY : Hid (cn t.data.toList = ((b : Int), true)) := by unfold Hid; rw [cn_cellN, ht]
  have ha := cellN_lt hs
  have hb := cellN_lt ht
  clear hs ht
  obtain ⟨ar, har⟩ : ∃ x : Int, (a : Int) / 6 = x := ⟨_, rfl⟩
  obtain ⟨br, hbr⟩ : ∃ x : Int, (b : Int) / 6 = x := ⟨_, rfl⟩
  have HAR : Hid (ar = ((a / 6 : Nat) : Int)) := by unfold Hid; omega
  have HAC : Hid ((a : Int) % 6 = ((a % 6 : Nat) : Int)) := by unfold Hid; omega
  have HBR : Hid (br = ((b / 6 : Nat) : Int)) := by unfold Hid; omega
  have HBC : Hid ((b : Int) % 6 = ((b % 6 : Nat) : Int)) := by unfold Hid; omega
  have b1 : 0 ≤ ar := by omega
  have b2 : ar ≤ 7 := by omega
  have b3 : 0 ≤ (a : Int) % 6 := by omega
  have b4 : (a : Int) % 6 ≤ 5 := by omega
  have b5 : 0 ≤ br := by omega
  have b6 : br ≤ 7 := by omega
  have b7 : 0 ≤ (b : Int) % 6 := by omega
  have b8 : (b : Int) % 6 ≤ 5 := by omega
  have HA : Hid (a < 48) := ha
  have HB : Hid (b < 48) := hb
  clear ha hb
  go_enter Tryz.func157, Tryz.ntmps157
  go_wp2_with fail
  refine (number_cell s _).mono ?_
  rintro e w1 ⟨rfl, n1, rfl⟩
  rw [HX.out]
  go_wp2_with fail
  refine (number_cell t _).mono ?_
  rintro e w1 ⟨rfl, n2, rfl⟩
  rw [HY.out]
  go_wp2_with fail
  have hb0 : Hid (Below w.heap.size w (w.drewN (n1 + n2))) := below_drewN (Below.refl _ _) _
  generalize w.drewN (n1 + n2) = W at *
  go_loopw [8, 9] (fun v x wr => ∃ (i : Nat) (q : Int), Hid (i ≤ b / 6 + 1 - a / 6 ∧ q = a / 6 + i) ∧ x = .int .i64 q ∧ Hid (Below w.heap.size w wr) ∧ Hid (Slc wr 3 1 v (rngAt a b i 0).length ((rngAt a b i 0).map intV)) ∧ Hid (∀ g, v.ownBlock = some g → w.heap.size ≤ g)) (fun _ x _ => (br + 1 - intOf x).toNat)
  case atStart => exact ⟨0, ar, by have := HAR.out; exact ⟨by omega, by omega⟩, rfl, hb0.out, slc_nil _ _ _, fun g hg => by cases hg⟩
  case round =>
    obtain ⟨i, q, hi1, rfl, hb1, hs1, hg1⟩ := hrel
    obtain ⟨hi2, hi3⟩ := hi1.out
    have h1 := HAR.out
    have h2 := HAC.out
    have h3 := HBR.out
    have h4 := HBC.out
    by_cases hle : q ≤ br
    · have HI : Hid (i < b / 6 + 1 - a / 6) := by unfold Hid; omega
      have HQ : Hid (q = a / 6 + i) := hi3
      have q0 : 0 ≤ q := by omega
      have q7 : q ≤ 7 := by omega
      clear hi1 hi2 hi3 h1 h2 h3 h4
      go_wp2_with fail
      go_loopw [8, 10] (fun v x wr => ∃ (j : Nat) (p : Int), Hid (j ≤ b % 6 + 1 - a % 6 ∧ p = a % 6 + j) ∧ x = .int .i64 p ∧ Hid (Below w.heap.size w wr) ∧ Hid (Slc wr 3 1 v (rngAt a b i j).length ((rngAt a b i j).map intV)) ∧ Hid (∀ g, v.ownBlock = some g → w.heap.size ≤ g)) (fun _ x _ => ((b : Int) % 6 + 1 - intOf x).toNat)
      case atStart => exact ⟨0, (a : Int) % 6, by have := HAC.out; exact ⟨by omega, by omega⟩, rfl, hb1.out, hs1.out, hg1.out⟩
      case round =>
        obtain ⟨j, p, hj1, rfl, hb2, hs2, hg2⟩ := hrel
        obtain ⟨hj2, hj3⟩ := hj1.out
        have h2 := HAC.out
        have h4 := HBC.out
        by_cases hle2 : p ≤ (b : Int) % 6
        · have HJ : Hid (j < b % 6 + 1 - a % 6) := by unfold Hid; omega
          have HP : Hid (p = a % 6 + j) := hj3
          have p0 : 0 ≤ p := by omega
          have p5 : p ≤ 5 := by omega
          have HL : Hid ((rngAt a b i j).length ≤ 48) := by
            unfold Hid; rw [rngAt_len]
            have h5 : i * (b % 6 + 1 - a % 6) ≤ 7 * 6 := Nat.mul_le_mul (by have := HI.out; have := HB.out; omega) (by omega)
            omega
          clear hj1 hj2 hj3 h2 h4
          go_wp2_with (at_builtin; go_must (refine wpList_append_sl (w := _) rfl _ _ 56 rfl 3 i0 _ 1 8 Tryz.underlying56 hi hz0 hz1 hz2 rfl _ _ _ rfl (hs2.out.kept ?c0) ⟨wr.heap.size, 0, none⟩ 1 1 [.int .i64 (q * 6 + p)] rfl (by decide) rfl ?c1 ?c2 ?c3 ?c4 ?_))
          case c0 => intro g hg; exact Below.heap_alloc _ _ _ (hs2.out.lt g hg)
          case c1 =>
            intro k u hk
            match k, hk with
            | 0, hk => simp at hk; subst hk; simp [Addr.add]
            | k + 1, hk => simp at hk
          case c2 => intro u hu; simp at hu; subst hu; rfl
          case c3 => have := HL.out; unfold maxLen; omega
          case c4 => have := HL.out; omega
          intro v' w2 hsl hgr hob
          have hnew : Hid (Slc w2 3 1 v' (rngAt a b i (j + 1)).length ((rngAt a b i (j + 1)).map intV)) := by
            unfold Hid
            rw [rngAt_next, List.length_append, List.map_append]
            have e : q * 6 + p = (((a / 6 + i) * 6 + (a % 6 + j) : Nat) : Int) := by have := HQ.out; have := HP.out; omega
            rw [e] at hsl
            exact hsl
          have hbel : Hid (Below w.heap.size w w2) := by
            refine (hb2.out.alloc hb2.out.size _).grown hgr (by simp; have := hb2.out.size; omega) ?_
            intro k hk; exact hg2.out k hk
          have hg3 : Hid (∀ g, v'.ownBlock = some g → w.heap.size ≤ g) := by
            intro g hg
            rcases hob with ⟨h, _⟩ | ⟨h, _⟩
            · rw [h] at hg; exact hg2.out g hg
            · rw [h] at hg; cases hg; have := hb2.out.size; simp; omega
          clear hsl hgr hob hs2 hg2 hb2
          go_wp2_with fail
          go_roundw
          case rel => exact ⟨j + 1, p + 1, by have := HJ.out; have := HP.out; exact ⟨by omega, by omega⟩, by go_num, hbel.out, hnew.out, hg3.out⟩
          case measure => simp [intOf]; omega
        · have HJ : Hid (j = b % 6 + 1 - a % 6) := by unfold Hid; omega
          clear hj1 hj2 hj3 h2 h4
          have hs3 : Hid (Slc wr 3 1 u8 (rngAt a b (i + 1) 0).length ((rngAt a b (i + 1) 0).map intV)) := by
            have := hs2.out; rw [HJ.out, rngAt_row] at this; exact this
          clear hs2
          go_wp2_with fail
          go_roundw
          case rel => exact ⟨i + 1, q + 1, by have := HI.out; have := HQ.out; exact ⟨by omega, by omega⟩, by go_num, hb2.out, hs3.out, hg2.out⟩
          case measure => simp [intOf]; omega
    · have HI : Hid (i = b / 6 + 1 - a / 6) := by unfold Hid; omega
      clear hi1 hi2 hi3 h1 h2 h3 h4
      have hs3 : Hid (Slc wr 3 1 u8 (rangeL a b).length ((rangeL a b).map intV)) := by
        have := hs1.out; rw [HI.out, rngAt_all] at this; exact this
      clear hs1
      go_wp2_with fail
      go_ret
      exact ⟨_, rfl, hb1.out, hs3.out, hg1.out⟩
theorem Slc.len {w : World} {e : TypeId} {size : Nat} {v : Value} {n : Nat} {xs : List Value} (h : Slc w e size v n xs) : ∃ a c, v = .slice a n c := by
  rcases h.2 with ⟨rfl, rfl⟩ | ⟨g, o, cap, cur, rfl, _⟩
  · exact ⟨none, 0, rfl⟩
  · exact ⟨_, _, rfl⟩
set_option maxHeartbeats 1000000 in
theorem range_none (s t : ByteArray) (h : cellN s.data.toList = none ∨ cellN t.data.toList = none) (w : World) :
    Calls Tryz.prog 157 #[.string s, .string t] w fun e w' => e = .returned (.slice none 0 0) ∧ Below w.heap.size w w' := by
  cases hs : cellN s.data.toList with
  | none =>
    have HX : Hid (cn s.data.toList = (0, false)) := by unfold Hid; rw [cn_cellN, hs]
    clear h hs
    go_enter Tryz.func157, Tryz.ntmps157
    go_wp2_with fail
    refine (number_cell s _).mono ?_
    rintro e w1 ⟨rfl, n1, rfl⟩
    rw [HX.out]
    go_wp2_with fail
    go_ret
    exact ⟨rfl, below_drewN (Below.refl _ _) _⟩
  | some a =>
    have HX : Hid (cn s.data.toList = ((a : Int), true)) := by unfold Hid; rw [cn_cellN, hs]
    have HY : Hid (cn t.data.toList = (0, false)) := by
      rcases h with h | h
      · rw [hs] at h; cases h
      · unfold Hid; rw [cn_cellN, h]
    clear h hs
    go_enter Tryz.func157, Tryz.ntmps157
    go_wp2_with fail
    refine (number_cell s _).mono ?_
    rintro e w1 ⟨rfl, n1, rfl⟩
    rw [HX.out]
    go_wp2_with fail
    refine (number_cell t _).mono ?_
    rintro e w1 ⟨rfl, n2, rfl⟩
    rw [HY.out]
    go_wp2_with fail
    go_ret
    exact ⟨rfl, below_drewN (Below.refl _ _) _⟩
theorem ar_len {s t : List UInt8} {a b : Nat} (hs : cellN s = some a) (ht : cellN t = some b) : arI (cn s) (cn t) = (rangeL a b).length := by
  rw [cn_cellN, cn_cellN, hs, ht, ← rngAt_all, rngAt_len]
  unfold arI
  simp only [if_true, Nat.add_zero]
  by_cases h1 : (b : Int) % 6 - a % 6 + 1 < 1
  · rw [if_pos h1]
    have : b % 6 + 1 - a % 6 = 0 := by omega
    rw [this]; simp
  · rw [if_neg h1]
    by_cases h2 : (b : Int) / 6 - a / 6 + 1 < 1
    · rw [if_pos h2]
      have : b / 6 + 1 - a / 6 = 0 := by omega
      rw [this]; simp
    · rw [if_neg h2, Int.natCast_mul, Int.mul_comm]
      congr 1 <;> omega
set_option maxHeartbeats 1000000 in
theorem area_any (s t : ByteArray) (w : World) :
    Calls Tryz.prog 125 #[.string s, .string t] w fun e w' => e = .returned (.int .i64 (arI (cn s.data.toList) (cn t.data.toList))) ∧ Below w.heap.size w w' := by
  by_cases h : cellN s.data.toList = none ∨ cellN t.data.toList = none
  · have HR : Hid (arI (cn s.data.toList) (cn t.data.toList) = 0) := by
      unfold Hid arI
      rw [cn_cellN, cn_cellN]
      rcases h with h | h <;> rw [h] <;> simp
    have H : Hid _ := h
    clear h
    go_enter Tryz.func125, Tryz.ntmps125
    go_wp2_with fail
    refine (range_none s t H.out _).mono ?_
    rintro e w1 ⟨rfl, hb⟩
    go_wp2_with fail
    go_ret
    rw [HR.out]
    exact ⟨rfl, hb⟩
  · obtain ⟨a, ha⟩ : ∃ a, cellN s.data.toList = some a := by
      cases e : cellN s.data.toList with
      | none => exact absurd (.inl e) h
      | some a => exact ⟨a, rfl⟩
    obtain ⟨b, hb⟩ : ∃ b, cellN t.data.toList = some b := by
      cases e : cellN t.data.toList with
      | none => exact absurd (.inr e) h
      | some a => exact ⟨a, rfl⟩
    have HR : Hid (arI (cn s.data.toList) (cn t.data.toList) = (rangeL a b).length) := ar_len ha hb
    have HA : Hid _ := ha
    have HB : Hid _ := hb
    clear h ha hb
    go_enter Tryz.func125, Tryz.ntmps125
    go_wp2_with fail
    refine (range_any s t a b HA.out HB.out _).mono ?_
    rintro e w1 ⟨v, rfl, hb, hs, hg⟩
    obtain ⟨q, cp, rfl⟩ := hs.len
    clear hs hg
    have HL : Hid _ := hb
    clear hb
    go_wp2_with fail
    go_ret
    rw [HR.out]
    exact ⟨rfl, HL.out⟩
end Go.Proofs.YtlpmmmmniojflaaGreatDoor
/- The machine in memory: put. -/
set_option linter.unusedVariables false
set_option linter.unusedSimpArgs false
namespace Go.Proofs.YtlpmmmmniojflaaGreatDoor
open Go.RowKit
theorem step_append_sl {P : Program} {w : World} {ops : Array Oper} {op : Oper} {a : Act} {K : Act → World → Prop} {Q : Exit → Act → World → Prop} {E : Prop} (hgd : op.guard = none) (s x : Operand) (t : TypeId)
    (ho : op.op = .call { callee := .builtin .append, args := #[s, x], argTypes := #[t, t] })
    (e : TypeId) (i : TypeInfo) (z : Value) (size bytes : Nat) (ht : P.underlying t = some (.slice e)) (hi : P.info? e = some i) (hz : i.zero = some z)
    (hsize : i.size = size) (hby : i.bytes = bytes) (hzs : z.cells.size = size)
    (v : Value) (n : Nat) (xs : List Value) (hs : a.eval s = v) (hown : Slc w e size v n xs)
    (ad : Addr) (m c : Nat) (news : List Value) (hx : a.eval x = .slice (some ad) m c) (hm0 : 0 < m) (hl : news.length = m * size) (hnews : ∀ j u, news[j]? = some u → w.cell? (ad.add j) = some u) (h1 : ∀ u ∈ news, u.oneCell' = true)
    (h63 : n + m ≤ maxLen) (hbytes : (n + m) * bytes ≤ 140737488355328)
    (h : ∀ v' w', Slc w' e size v' (n + m) (xs ++ news) → w.grownBy w' v.ownBlock → ((v'.ownBlock = v.ownBlock ∧ v.ownBlock ≠ none) ∨ (v'.ownBlock = some w.heap.size ∧ w.grownBy w' none)) → K (a.put op.dst v') w') :
    if Region.wanted op (yielded ops a.tmps) = true then Oper.wp P op a w K Q else E := by
  have hw : Region.wanted op (yielded ops a.tmps) = true := by simp [Region.wanted, hgd]
  rw [if_pos hw]
  obtain ⟨v', w', hr, h2, h3, h4⟩ := run_append_sl (P := P) w t op.type e i z size bytes ht hi hz hsize hby hzs v n xs hown ad m c news hm0 hl hnews h1 h63 hbytes
  unfold Oper.wp execOp
  simp only [ho, resolve, invoke, builtin, Sem.run_bind, Sem.run_pure, Result.andThen_ok, List.map_toArray, List.map_cons, List.map_nil, hs, hx, hr]
  exact h v' w' h2 h3 h4
theorem Tryz.info52 : (Tryz.prog.info? 52).map (fun i => (i.zero, i.size, i.bytes)) = some (some (.agg #[.int .i64 0, .int .i64 0, .string ⟨#[]⟩]), 3, 32) := by kernel_rfl
theorem grown_cell {w w' : World} {row : Option Nat} (h : w.grownBy w' row) {q j : Nat} {v : Value} (hc : w.cell? ⟨q, j, none⟩ = some v) (hne : some q ≠ row) : w'.cell? ⟨q, j, none⟩ = some v := h.cell hc hne
theorem grown_frozen {w w' : World} {row : Option Nat} (h : w.grownBy w' row) {q j : Nat} {v : Value} (hc : w.cell? ⟨q, j, none⟩ = some v) (hf : w.frozen? ⟨q, j, none⟩ = false) (hne : some q ≠ row) : w'.frozen? ⟨q, j, none⟩ = false := by
  rw [← hf]
  exact World.frozen?_of_block (w := w) (h.block q (World.block_lt_of_cell? w _ hc) hne)
theorem Slc.al {w : World} {e : TypeId} {size : Nat} {v : Value} {n : Nat} {xs : List Value} (h : Slc w e size v n xs) (z : Obj) : Slc (w.alloc z) e size v n xs := h.kept fun g hg => Below.heap_alloc _ _ _ (h.lt g hg)
theorem Slc.drew {w : World} {e : TypeId} {size : Nat} {v : Value} {n : Nat} {xs : List Value} (h : Slc w e size v n xs) : Slc w.drew e size v n xs := h
theorem app_close {own : Nat → Nat} {b lo hi col : Nat} {w W w1 : World} {e : TypeId} {size : Nat} {v v1 : Value} {n n' : Nat} {xs xs' : List Value} (hs : SlC w own b col e size v n xs) (hb : b < w.heap.size) (hW : Below w.heap.size w W)
    (hg : W.grownBy w1 v.ownBlock) (hob : (v1.ownBlock = v.ownBlock ∧ v.ownBlock ≠ none) ∨ (v1.ownBlock = some W.heap.size ∧ W.grownBy w1 none)) (hsl : Slc w1 e size v1 n' xs') {j : Nat} (h1 : lo ≤ j) (h2 : j < hi) :
    ∃ own', (∀ k, k < w.heap.size → own' k = own k) ∧ SlC (w1.setCell ⟨b, j, none⟩ v1) own' b col e size v1 n' xs' ∧ Chg own (fun c => c = col) b lo hi w (w1.setCell ⟨b, j, none⟩ v1) := by
  have hbv : some b ≠ v.ownBlock := fun e => (hs.col b e.symm).2 rfl
  have hbW : w1.heap[b]? = w.heap[b]? := by rw [hg.block b (Nat.lt_of_lt_of_le hb hW.size) hbv, hW.block b hb]
  refine ⟨fun k => if k < w.heap.size then own k else col, fun k hk => if_pos hk, ?_, ?_⟩
  · have hcol : ∀ g, v1.ownBlock = some g → (if g < w.heap.size then own g else col) = col ∧ g ≠ b := by
      intro g hg'
      rcases hob with ⟨h3, _⟩ | ⟨h3, _⟩
      · rw [h3] at hg'
        have hl := hs.sl.lt g hg'
        rw [if_pos hl]; exact hs.col g hg'
      · rw [h3] at hg'
        cases hg'
        have := hW.size
        rw [if_neg (by omega)]; exact ⟨rfl, by omega⟩
    exact ⟨hsl.kept fun g hg' => Below.heap_setCell _ _ _ _ (hcol g hg').2, hcol⟩
  · refine Chg.put ⟨hg.os.trans hW.os, hg.tape.trans hW.tape, hg.output.trans hW.output, Nat.le_trans hW.size hg.size, fun k hk hkb hc => ?_, fun cs t hc => ⟨cs, by rw [hbW]; exact hc, rfl, fun _ _ => rfl⟩⟩ h1 h2 _
    rw [hg.block k (Nat.lt_of_lt_of_le hk hW.size) (fun e => hc (hs.col k e.symm).1), hW.block k hk]
theorem news2 (w : World) (z : Obj) (z' : Obj) : ((w.alloc z).alloc z').drew.heap[w.heap.size + 1]? = some z' := by
  have := heap_alloc_new (w.alloc z) z'
  have e : (w.alloc z).heap.size = w.heap.size + 1 := by simp
  rw [e] at this
  exact this
theorem news2d (w : World) (z : Obj) (z' : Obj) : ((w.alloc z).drew.alloc z').heap[w.heap.size + 1]? = some z' := news2 w z z'
set_option maxRecDepth 100000 in
set_option maxHeartbeats 2000000 in
theorem put_w (w : World) (own : Nat → Nat) (b o cv : Nat) (l : List V) (y : V) (hB : Hid (Blk w b o)) (hV : Hid (VS w own b o cv l)) (hl : l.length ≤ 100000) :
    Calls Tryz.prog 205 #[.pointer (some ⟨b, o, none⟩), vV y] w fun e w' => e = .returned (.tuple #[]) ∧ Hid (∃ own', (∀ k, k < w.heap.size → own' k = own k) ∧ VS w' own' b o cv (l ++ [y]) ∧ Chg own (fun c => c = cv) b (o + 5) (o + 6) w w') := by
  obtain ⟨i0, hi, hz0, hz1, hz2⟩ := info_parts Tryz.info52
  obtain ⟨v, hv, hs⟩ := hV.out
  have hb := hB.out.lt
  have HL : Hid (l.length ≤ 100000) := hl
  have HS : Hid _ := hs
  have n1 : b ≠ w.heap.size := by omega
  have n2 : w.heap.size ≠ b := by omega
  have n3 : b ≠ w.heap.size + 1 := by omega
  have n4 : w.heap.size + 1 ≠ b := by omega
  have hfz := hB.out.frozen (o + 5)
  have hne : Hid (some b ≠ v.ownBlock) := by
    unfold Hid; intro e
    exact (hs.col b e.symm).2 rfl
  have hv1 := fun z1 => al hv z1
  have hv2 := fun z1 z2 => al (al hv z1) z2
  have hfz1 := fun z => afz hfz hb z
  have hfz2 := fun z1 z2 => afz (afz hfz hb z1) (by simp; omega) z2
  clear hs hl
  unfold vV
  go_enter Tryz.func205, Tryz.ntmps205
  go_wp2_with fail
  go_region_law ((refine step_append_sl (by rfl) _ _ _ (by rfl) 52 i0 _ 3 32 Tryz.underlying179 hi hz0 hz1 hz2 rfl v l.length (l.flatMap vC) (by rfl) (by first | exact ((HS.out.sl.al _).al _).drew | exact ((HS.out.sl.al _).drew.al _)) ⟨w.heap.size + 1, 0, none⟩ 1 1 [.int .i64 y.k, .int .i64 y.n, .string y.s] (by rfl) (by decide) (by rfl) (World.news_of_block (cs := #[.int .i64 y.k, .int .i64 y.n, .string y.s]) (t := 52) (fr := (0, 0)) (by first | exact news2 w _ _ | exact news2d w _ _)) (by simp [Value.oneCell']) (by have := HL.out; unfold maxLen; omega) (by have := HL.out; omega) ?_; intro v1 w1 hsl hgrow hob; obtain ⟨q1, cp1, hq1⟩ := Slc.len hsl; subst hq1; have c1 := grown_cell hgrow (q := b) (j := o + 5) (v := v) (by first | exact hv2 _ _ | simp [hv2]) hne.out; have f1 := grown_frozen hgrow (q := b) (j := o + 5) (v := v) (by first | exact hv2 _ _ | simp [hv2]) (by first | exact hfz2 _ _ | simp [hfz2]) hne.out))
  all_goals
    refine bodyPost_end (results_none rfl _ _ _) rfl ?_
    obtain ⟨own', o1, o2, o3⟩ := app_close (lo := o + 5) (hi := o + 6) HS.out hb ((bl2 _ _ _).drew) hgrow hob hsl (j := o + 5) (by omega) (by omega)
    refine ⟨rfl, own', o1, ⟨.slice q1 (l.length + 1) cp1, ?_, ?_⟩, o3⟩
    · obtain ⟨cs, t, k1, k2⟩ := hB.out
      have kb : w1.heap[b]? = some (.cells cs t (0, 0)) := by
        rw [hgrow.block b (by simp; omega) hne.out]; exact rold (rold k1 _) _
      rw [cell_of_row _ b (o + 5) _ t (0, 0) (rset kb), Array.getElem?_setIfInBounds_self_of_lt (by omega)]
    · rw [List.length_append, List.flatMap_append]
      exact o2
end Go.Proofs.YtlpmmmmniojflaaGreatDoor
