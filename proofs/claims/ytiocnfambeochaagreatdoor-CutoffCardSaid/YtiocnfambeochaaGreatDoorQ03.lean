/- Texts put together. -/
import Derived.Test.YtiocnfambeochaaGreatDoorQ02
import Derived.Deep.QuietTactic
import Derived.BigQuiet
import Derived.Test.YtiocnfambeochaaGreatDoorQ00
import Derived.Handy
/- The program's parser in memory: 'kind', 'take', 'place', 'negations'. -/
namespace Go.Proofs.YtiocnfambeochaaGreatDoor
open Go.RowKit

/-- The parser lies at block pb: its list v holds the tokens ts, i of them are passed, d brackets are open. What is of the call's own lies from B on. -/
structure PW (w : World) (B pb : Nat) (v : Value) (ts : List Tk) (i d : Nat) : Prop where
  blk : w.heap[pb]? = some (.cells #[v, .int .i64 i, .int .i64 d] 194 (0, 0))
  own : w.ownsRow B 142 3 v ts.length (ts.flatMap tkCells)
  low : B ≤ pb
  apart : v.ownBlock ≠ some pb
  le : i ≤ ts.length
  small : ts.length ≤ 1000000
  deep : d ≤ 8

def kindAt (ts : List Tk) (i : Nat) : Int := match ts[i]? with | some t => t.k | none => 0

theorem PW.c0 {w : World} {B pb : Nat} {v : Value} {ts : List Tk} {i d : Nat} (h : PW w B pb v ts i d) : w.cell? ⟨pb, 0, none⟩ = some v := by
  simp [World.cell?, h.blk]
theorem PW.c1 {w : World} {B pb : Nat} {v : Value} {ts : List Tk} {i d : Nat} (h : PW w B pb v ts i d) : w.cell? ⟨pb, 1, none⟩ = some (.int .i64 i) := by
  simp [World.cell?, h.blk]
theorem PW.c2 {w : World} {B pb : Nat} {v : Value} {ts : List Tk} {i d : Nat} (h : PW w B pb v ts i d) : w.cell? ⟨pb, 2, none⟩ = some (.int .i64 d) := by
  simp [World.cell?, h.blk]
theorem PW.free {w : World} {B pb : Nat} {v : Value} {ts : List Tk} {i d : Nat} (h : PW w B pb v ts i d) (o : Nat) : w.frozen? ⟨pb, o, none⟩ = false := by
  simp [World.frozen?, h.blk]

theorem flat_get (ts : List Tk) (i : Nat) (t : Tk) (h : ts[i]? = some t) : (ts.flatMap tkCells)[i * 3]? = some (.int .i64 t.k) ∧ (ts.flatMap tkCells)[i * 3 + 1]? = some (.string ⟨t.x.toArray⟩) ∧ (ts.flatMap tkCells)[i * 3 + 2]? = some (.int .i64 t.p) := by
  induction ts generalizing i with
  | nil => simp at h
  | cons a r ih =>
    cases i with
    | zero =>
      simp only [List.getElem?_cons_zero, Option.some.injEq] at h
      subst h
      simp [tkCells]
    | succ i =>
      rw [List.getElem?_cons_succ] at h
      have := ih i h
      rw [List.flatMap_cons]
      have e : (tkCells a).length = 3 := rfl
      rw [List.getElem?_append_right (by omega), List.getElem?_append_right (by omega), List.getElem?_append_right (by omega), e]
      have e1 : (i + 1) * 3 - 3 = i * 3 := by omega
      have e2 : (i + 1) * 3 + 1 - 3 = i * 3 + 1 := by omega
      have e3 : (i + 1) * 3 + 2 - 3 = i * 3 + 2 := by omega
      rw [e1, e2, e3]
      exact this

/-- The list's value, and its cells. -/
theorem PW.list {w : World} {B pb : Nat} {v : Value} {ts : List Tk} {i d : Nat} (h : PW w B pb v ts i d) :
    (v = .slice none 0 0 ∧ ts = []) ∨ ∃ g cap, v = .slice (some ⟨g, 0, none⟩) ts.length cap ∧ B ≤ g ∧ ts.length ≤ cap ∧ ∀ (j : Nat) (t : Tk), ts[j]? = some t →
      w.cell? ⟨g, j * 3, none⟩ = some (.int .i64 t.k) ∧ w.cell? ⟨g, j * 3 + 1, none⟩ = some (.string ⟨t.x.toArray⟩) ∧ w.cell? ⟨g, j * 3 + 2, none⟩ = some (.int .i64 t.p) := by
  have ho := h.own
  rcases ho.2 with ⟨hv, hn⟩ | ⟨g, cap, cur, hv, hg, hh, hnc, hcm, hcs, htake⟩
  · exact Or.inl ⟨hv, List.length_eq_zero_iff.1 hn⟩
  · refine Or.inr ⟨g, cap, hv, hg, hnc, fun j t hj => ?_⟩
    rw [hv] at ho
    have hjl : j < ts.length := (List.getElem?_eq_some_iff.1 hj).1
    obtain ⟨f0, f1, f2⟩ := flat_get ts j t hj
    exact ⟨by rw [ho.cellAt (j * 3) (by omega)]; exact f0, by rw [ho.cellAt (j * 3 + 1) (by omega)]; exact f1, by rw [ho.cellAt (j * 3 + 2) (by omega)]; exact f2⟩

set_option maxHeartbeats 1000000 in
theorem kind_any (w : World) (B pb : Nat) (v : Value) (ts : List Tk) (i d : Nat) (h : Hid (PW w B pb v ts i d)) :
    Calls Tryz.prog 156 #[.pointer (some ⟨pb, 0, none⟩)] w fun e w' => e = .returned (.int .i64 (kindAt ts i)) ∧ ∃ n, w' = w.drewN n := by
  have c0 := h.out.c0
  have c1 := h.out.c1
  have hle := h.out.le
  have hsm := h.out.small
  rcases h.out.list with ⟨rfl, rfl⟩ | ⟨g, cap, rfl, hg, hcap, hc⟩
  · have hi : i = 0 := by simpa using hle
    subst hi
    go_enter Tryz.func156, Tryz.ntmps156
    go_wp2
    go_quiet (fail)
    go_wp2
    go_ret
    exact ⟨rfl, _, rfl⟩
  · by_cases hlt : i < ts.length
    · obtain ⟨t, ht⟩ : ∃ t, ts[i]? = some t := ⟨_, List.getElem?_eq_getElem hlt⟩
      obtain ⟨k0, _, _⟩ := hc i t ht
      have hk : Hid (kindAt ts i = t.k) := by unfold Hid kindAt; rw [ht]
      have hlti : (i : Int) < (ts.length : Int) := by omega
      clear hc ht
      go_enter Tryz.func156, Tryz.ntmps156
      go_wp2
      go_quiet (fail)
      go_wp2
      go_quiet (fail)
      go_wp2
      go_ret
      rw [hk.out]
      exact ⟨rfl, _, by rw [World.drewN_drewN]⟩
    · have hlti : ¬ (i : Int) < (ts.length : Int) := by omega
      have hk : Hid (kindAt ts i = 0) := by unfold Hid kindAt; rw [List.getElem?_eq_none (by omega)]
      clear hc
      go_enter Tryz.func156, Tryz.ntmps156
      go_wp2
      go_quiet (fail)
      go_wp2
      go_ret
      rw [hk.out]
      exact ⟨rfl, _, rfl⟩

section
variable {w : World} {B pb : Nat} {v : Value} {ts : List Tk} {i d : Nat}

theorem PW.of_heap (h : PW w B pb v ts i d) {w' : World} (e : w'.heap = w.heap) : PW w' B pb v ts i d :=
  ⟨by rw [e]; exact h.blk, by have := h.own; unfold World.ownsRow at this ⊢; rw [e]; exact this, h.low, h.apart, h.le, h.small, h.deep⟩
theorem PW.drewN (h : PW w B pb v ts i d) (n : Nat) : PW (w.drewN n) B pb v ts i d := h.of_heap rfl
theorem PW.lt (h : PW w B pb v ts i d) : pb < w.heap.size := lt_of_block h.blk
theorem PW.alloc (h : PW w B pb v ts i d) (o : Obj) : PW (w.alloc o) B pb v ts i d :=
  ⟨by rw [Below.heap_alloc w o pb h.lt]; exact h.blk, h.own.alloc o, h.low, h.apart, h.le, h.small, h.deep⟩
theorem three_setCell {w : World} {b : Nat} {x y z u : Value} {t : TypeId} (h : w.heap[b]? = some (.cells #[x, y, z] t (0, 0))) :
    (w.setCell ⟨b, 1, none⟩ u).heap[b]? = some (.cells #[x, u, z] t (0, 0)) ∧ (w.setCell ⟨b, 2, none⟩ u).heap[b]? = some (.cells #[x, y, u] t (0, 0)) := by
  have hlt := lt_of_block h
  have h' : w.heap[b] = .cells #[x, y, z] t (0, 0) := by simpa [Array.getElem?_eq_getElem hlt] using h
  constructor
  · show (w.heap.modify b _)[b]? = _
    rw [Array.getElem?_eq_getElem (by simpa using hlt), Array.getElem_modify_self, h']
    rfl
  · show (w.heap.modify b _)[b]? = _
    rw [Array.getElem?_eq_getElem (by simpa using hlt), Array.getElem_modify_self, h']
    rfl
theorem PW.next (h : PW w B pb v ts i d) (j : Nat) (hj : j ≤ ts.length) : PW (w.setCell ⟨pb, 1, none⟩ (.int .i64 j)) B pb v ts j d :=
  ⟨(three_setCell h.blk).1, ownsRow_setCell_other h.own h.apart _, h.low, h.apart, hj, h.small, h.deep⟩
theorem PW.depth (h : PW w B pb v ts i d) (j : Nat) (hj : j ≤ 8) : PW (w.setCell ⟨pb, 2, none⟩ (.int .i64 j)) B pb v ts i j :=
  ⟨(three_setCell h.blk).2, ownsRow_setCell_other h.own h.apart _, h.low, h.apart, h.le, h.small, hj⟩
end

theorem kindAt_lt {ts : List Tk} {i : Nat} (h : kindAt ts i ≠ 0) : i < ts.length := by
  by_cases hl : i < ts.length
  · exact hl
  · exact absurd (by unfold kindAt; rw [List.getElem?_eq_none (by omega)]) h

/-- The list of kinds that is handed to 'take'. -/
def KL (w : World) (kb : Nat) (ks : List Int) : Prop := ∀ (j : Nat) (q : Int), ks[j]? = some q → w.cell? ⟨kb, j, none⟩ = some (.int .i64 q)

def tkB (ks : List Int) (q : Int) : Bool := decide (q ∈ ks)
def tkI (ks : List Int) (q : Int) (i : Nat) : Nat := if q ∈ ks then i + 1 else i

set_option maxHeartbeats 1000000 in
theorem take_any (w : World) (B pb : Nat) (v : Value) (ts : List Tk) (i d kb : Nat) (ks : List Int) (h : Hid (PW w B pb v ts i d)) (hk : Hid (KL w kb ks)) (hkl : ks.length ≤ 3) (h0 : Hid (¬ (0 : Int) ∈ ks)) :
    Calls Tryz.prog 123 #[.pointer (some ⟨pb, 0, none⟩), .slice (some ⟨kb, 0, none⟩) ks.length ks.length] w fun e w' => e = .returned (.bool (tkB ks (kindAt ts i))) ∧ Below B w w' ∧
      PW w' B pb v ts (tkI ks (kindAt ts i) i) d := by
  have hle := h.out.le
  have hsm := h.out.small
  go_enter Tryz.func123, Tryz.ntmps123
  go_wp2_with fail
  go_loopw [9] (fun x wr => ∃ (k n : Nat), k ≤ ks.length ∧ x = .int .i64 k ∧ Hid (wr = w.drewN n) ∧ Hid (¬ kindAt ts i ∈ ks.take k)) (fun x _ => ks.length - (intOf x).toNat)
  case atStart => exact ⟨0, 0, by omega, rfl, rfl, by unfold Hid; simp⟩
  case round =>
    obtain ⟨k, n, hkk, rfl, hwr, hno⟩ := hrel
    have hpw : Hid (PW wr B pb v ts i d) := by unfold Hid; rw [hwr.out]; exact h.out.drewN n
    by_cases hlt : k < ks.length
    · obtain ⟨q, hq⟩ : ∃ q, ks[k]? = some q := ⟨_, List.getElem?_eq_getElem hlt⟩
      have hc : wr.cell? ⟨kb, k, none⟩ = some (.int .i64 q) := by rw [hwr.out]; exact hk.out k q hq
      have hlti : (k : Int) < (ks.length : Int) := by omega
      have HQ : Hid _ := hq
      clear hq
      by_cases hkq : kindAt ts i = q
      · have h1 : (kindAt ts i == q) = true := by simpa using hkq
        have h2 : Hid (kindAt ts i = q) := hkq
        clear hkq
        have c1 := hpw.out.c1
        have f1 := hpw.out.free 1
        have hil : i < ts.length := kindAt_lt (by rw [h2.out]; intro hz; exact h0.out (by rw [← hz]; exact List.mem_of_getElem? HQ.out))
        have hin : Hid (kindAt ts i ∈ ks) := by unfold Hid; rw [h2.out]; exact List.mem_of_getElem? HQ.out
        go_wp2_with (go_at_call 156; refine (kind_any _ B pb v ts i d hpw).mono ?_; rintro e w' ⟨rfl, m, rfl⟩)
        go_ret
        rw [show tkB ks (kindAt ts i) = true from decide_eq_true hin.out, show tkI ks (kindAt ts i) i = i + 1 from if_pos hin.out]
        refine ⟨rfl, ?_, ?_⟩
        · rw [hwr.out]; exact (below_drewN (below_drewN (Below.refl _ _) n) m).setCell h.out.low _
        · exact (hpw.out.drewN m).next (i + 1) (by omega)
      · have h1 : (kindAt ts i == q) = false := by simpa using hkq
        have h2 : Hid (kindAt ts i ≠ q) := hkq
        clear hkq
        go_wp2_with (go_at_call 156; refine (kind_any _ B pb v ts i d hpw).mono ?_; rintro e w' ⟨rfl, m, rfl⟩)
        go_roundw
        case rel =>
          refine ⟨k + 1, n + m, by omega, by go_num, ?_, ?_⟩
          · unfold Hid; rw [hwr.out, World.drewN_drewN]
          · unfold Hid
            rw [List.take_add_one, HQ.out]
            simp only [Option.toList_some, List.mem_append, List.mem_singleton, not_or]
            exact ⟨hno.out, h2.out⟩
        case measure => simp [intOf]; omega
    · have hlti : ¬ (k : Int) < (ks.length : Int) := by omega
      go_wp2_with fail
      go_ret
      have hn2 : ¬ kindAt ts i ∈ ks := by
        have := hno.out
        rw [List.take_of_length_le (by omega)] at this
        exact this
      rw [show tkB ks (kindAt ts i) = false from decide_eq_false hn2, show tkI ks (kindAt ts i) i = i from if_neg hn2, hwr.out]
      exact ⟨rfl, below_drewN (Below.refl _ _) n, h.out.drewN n⟩
end Go.Proofs.YtiocnfambeochaaGreatDoor

/- The program's package values, walked. -/
set_option linter.unusedVariables false
set_option linter.unusedSimpArgs false
namespace Go.Proofs.YtiocnfambeochaaGreatDoor
open Go.RowKit

def vV (v : V) : Value := .agg #[.int .i64 v.k, .int .i64 v.n, .string v.s]
/-- A call that answers this value and turns nothing that was there. -/
def Gives (fn : Nat) (args : Array Value) (v : Value) : Prop := ∀ w : World, Calls Tryz.prog fn args w fun e w' => e = .returned v ∧ Below w.heap.size w w'
theorem bal {w w' : World} (h : Below w.heap.size w w') (o : Obj) : Below w.heap.size w (w'.alloc o) := h.alloc h.size o
theorem bl1 (w : World) (o : Obj) : Below w.heap.size w (w.alloc o) := (Below.refl _ _).alloc (Nat.le_refl _) _
theorem bl2 (w : World) (o p : Obj) : Below w.heap.size w ((w.alloc o).alloc p) := (bl1 w o).alloc (by simp) _
theorem bl3 (w : World) (o p q : Obj) : Below w.heap.size w (((w.alloc o).alloc p).alloc q) := (bl2 w o p).alloc (by simp; omega) _
set_option maxHeartbeats 1000000 in
theorem int_w (n : Int) : Gives 204 #[.int .i64 n] (vV (vI n)) := by
  intro w
  unfold vV vI eB
  go_enter Tryz.func204, Tryz.ntmps204
  go_wp2_with fail
  go_returns
  exact ⟨rfl, bl1 _ _⟩
set_option maxHeartbeats 1000000 in
theorem error_w (n : Int) : Gives 203 #[.int .i64 n] (vV (vE n)) := by
  intro w
  unfold vV vE eB
  go_enter Tryz.func203, Tryz.ntmps203
  go_wp2_with fail
  go_returns
  exact ⟨rfl, bl1 _ _⟩
set_option maxHeartbeats 1000000 in
theorem text_w (s : ByteArray) : Gives 256 #[.string s] (vV (vT s)) := by
  intro w
  unfold vV vT
  go_enter Tryz.func256, Tryz.ntmps256
  go_wp2_with fail
  go_returns
  exact ⟨rfl, bl1 _ _⟩
set_option maxHeartbeats 1000000 in
theorem bool_w (b : Bool) : Gives 226 #[.bool b] (vV (vB b)) := by
  intro w
  unfold vV vB eB
  cases b
  all_goals
    go_enter Tryz.func226, Tryz.ntmps226
    go_wp2_with fail
    go_returns
    exact ⟨rfl, bl1 _ _⟩
set_option maxHeartbeats 1000000 in
theorem cycle_w : Gives 177 #[] (vV cyc) := by
  intro w
  unfold vV cyc vE eB
  go_enter Tryz.func177, Tryz.ntmps177
  go_wp2
  go_returns
  exact ⟨rfl, bl2 _ _ _⟩
theorem num_in {n s : Int} (hs : wrap64 n = s) (h : -9223372036854775808 ≤ n ∧ n ≤ 9223372036854775807) : vNum n = vI s := by
  have : s = n := by unfold wrap64 at hs; omega
  unfold vNum inR; rw [if_pos (decide_eq_true h), this]
theorem num_out {n : Int} (h : ¬ (-9223372036854775808 ≤ n ∧ n ≤ 9223372036854775807)) : vNum n = vE 1 := by
  unfold vNum inR; rw [if_neg (by rw [decide_eq_true_iff]; exact h)]
end Go.Proofs.YtiocnfambeochaaGreatDoor
