/- Texts put together. -/
import Derived.Test.YtlpmmmmniojflaaGreatDoorQ21
import Derived.Test.YtlpmmmmniojflaaGreatDoorQ08
import Derived.Test.YtlpmmmmniojflaaGreatDoorQ15
import Derived.Test.YtlpmmmmniojflaaGreatDoorQ07
import Derived.Deep.LoopGhost
import Derived.Test.YtlpmmmmniojflaaGreatDoorQ09
import Derived.Laws.IdiomCopy
import Derived.Deep.RegionLaw
/- How a working out lies in memory. -/
set_option linter.unusedVariables false
set_option linter.unusedSimpArgs false
namespace Go.Proofs.YtlpmmmmniojflaaGreatDoor
open Go.RowKit
def cK (c : Nat) : Nat := 4 * c + 2
def cV (c : Nat) : Nat := 4 * c + 3
def cG (c : Nat) : Nat := 4 * c + 4
def cR (c : Nat) : Nat := 4 * c + 5
def cC (c col : Nat) : Prop := col = cK c ∨ col = cV c ∨ col = cG c ∨ col = cR c
theorem cC_zero (c : Nat) : ¬ cC c 0 := by unfold cC cK cV cG cR; omega
theorem cC_one (c : Nat) : ¬ cC c 1 := by unfold cC cK cV cG cR; omega
theorem cC_other {c d col : Nat} (h : c ≠ d) (hc : cC c col) : ¬ cC d col := by unfold cC cK cV cG cR at *; omega
theorem cols_c (c : Nat) : Cols (cV c) (cG c) := ⟨by unfold cV; omega, by unfold cG; omega, by unfold cV cG; omega⟩
def aC (a : Ans) (rv : Value) : List Value := [.string a.f, rv, .int .i64 a.v.k, .int .i64 a.v.n, .string a.v.s]
def AL (w : World) (own : Nat → Nat) : List Ans → List Value → Prop
  | [], xs => xs = []
  | a :: l, xs => ∃ rv r, xs = aC a rv ++ r ∧ RdSl w rv a.rs ∧ (∀ g, rv.ownBlock = some g → own g = 0) ∧ AL w own l r
theorem RdSl.oneCell {w : World} {v : Value} {rs : List Rd} (h : RdSl w v rs) : v.oneCell' = true := by
  rcases h.2 with ⟨rfl, _⟩ | ⟨g, o, cap, cur, rfl, _⟩ <;> rfl
theorem AL.len {w : World} {own : Nat → Nat} : ∀ (l : List Ans) (xs : List Value), AL w own l xs → xs.length = l.length * 5
  | [], xs, h => by rw [show xs = [] from h]; rfl
  | a :: l, xs, ⟨rv, r, h1, _, _, h4⟩ => by rw [h1, List.length_append, AL.len l r h4, List.length_cons]; show 5 + l.length * 5 = _; omega
theorem AL.app {w : World} {own : Nat → Nat} : ∀ (l : List Ans) (xs : List Value) (m : List Ans) (ys : List Value), AL w own l xs → AL w own m ys → AL w own (l ++ m) (xs ++ ys)
  | [], xs, m, ys, h, g => by rw [show xs = [] from h]; exact g
  | a :: l, xs, m, ys, ⟨rv, r, h1, h2, h3, h4⟩, g => ⟨rv, r ++ ys, by rw [h1, List.append_assoc], h2, h3, AL.app l r m ys h4 g⟩
theorem AL.one {w : World} {own : Nat → Nat} : ∀ (l : List Ans) (xs : List Value), AL w own l xs → ∀ u ∈ xs, u.oneCell' = true
  | [], xs, h, u, hu => by rw [show xs = [] from h] at hu; cases hu
  | a :: l, xs, ⟨rv, r, h1, h2, h3, h4⟩, u, hu => by
    rw [h1] at hu
    rcases List.mem_append.1 hu with hu | hu
    · unfold aC at hu
      simp only [List.mem_cons, List.not_mem_nil, or_false] at hu
      rcases hu with rfl | rfl | rfl | rfl | rfl
      · rfl
      · exact h2.oneCell
      · rfl
      · rfl
      · rfl
    · exact AL.one l r h4 u hu
theorem AL.kept {w w' : World} {own own' : Nat → Nat} (hk : ∀ k, k < w.heap.size → own k = 0 → w'.heap[k]? = w.heap[k]? ∧ own' k = 0) : ∀ (l : List Ans) (xs : List Value), AL w own l xs → AL w' own' l xs
  | [], xs, h => h
  | a :: l, xs, ⟨rv, r, h1, h2, h3, h4⟩ => ⟨rv, r, h1, h2.kept fun g hg => (hk g (h2.lt g hg) (h3 g hg)).1, fun g hg => (hk g (h2.lt g hg) (h3 g hg)).2, AL.kept hk l r h4⟩
def KN (w : World) (own : Nat → Nat) (b j col : Nat) (l : List Ans) : Prop := ∃ v xs, w.cell? ⟨b, j, none⟩ = some v ∧ SlC w own b col 95 5 v l.length xs ∧ AL w own l xs
def MW (m : Mc) (mst : Nat) (nd : Nd) (d : Beh) : Prop := (mst = 0 ∧ ∃ n, Runs n m d) ∨ (mst = 1 ∧ d [] = .inr nd ∧ nd.c < 48 ∧ m.vals.length < m.at' ∧ ∀ x, OKV x → ∃ n, Runs n (m.push x) (fun l => d (x :: l)))
def T (c : Nat) : Nat := 290 + 16 * c
def RunR (w : World) (own : Nat → Nat) (b c : Nat) (t : Tsk) : Prop := ∃ m mst nd, MR w own b (T c + 4) (cV c) (cG c) m mst nd ∧ MI m ∧ MW m mst nd t.d ∧ AnsAt w b (T c + 11) t.an (fun g => own g = cR c ∧ g ≠ b)
def MZ (w : World) (b c : Nat) : Prop := ∀ j, 4 ≤ j → j < 11 → ∃ v, w.cell? ⟨b, T c + j, none⟩ = some v ∧ v.oneCell' = true
theorem MZ.kept {w w' : World} {b c : Nat} (h : MZ w b c) (hc : ∀ j, 4 ≤ j → j < 11 → w'.cell? ⟨b, T c + j, none⟩ = w.cell? ⟨b, T c + j, none⟩) : MZ w' b c := fun j h1 h2 => by rw [hc j h1 h2]; exact h j h1 h2
structure TR (w : World) (own : Nat → Nat) (b c : Nat) (t : Tsk) : Prop where
  st : w.cell? ⟨b, T c, none⟩ = some (.int .i64 t.st)
  wt : w.cell? ⟨b, T c + 1, none⟩ = some (.int .i64 t.wt)
  kn : KN w own b (T c + 2) (cK c) t.kn
  held : w.cell? ⟨b, T c + 3, none⟩ = some (.int .i64 t.held)
  run : t.st = 2 → RunR w own b c t
  ans : t.st = 3 → AnsAt w b (T c + 11) t.an (fun g => own g = 0)
  mz : t.st = 3 → MZ w b c
def nm (c : Nat) : ByteArray := ⟨#[UInt8.ofNat (65 + c % 6), UInt8.ofNat (49 + c / 6)]⟩
def nmV (c : Nat) : Value := .string (nm c)
structure StoR (w : World) (own : Nat → Nat) (x : Nat) (s : Sto) : Prop where
  places : w.cell? ⟨x, 432, none⟩ = some (.int .i64 s.places)
  size : w.cell? ⟨x, 433, none⟩ = some (.int .i64 s.size)
  next : w.cell? ⟨x, 434, none⟩ = some (.int .i64 s.next)
  len : s.kept.length = 64
  kept : ∀ (j : Nat) (a : Ans), s.kept[j]? = some a → AnsAt w x (435 + j * 5) a (fun g => own g = 0)
structure RR (w : World) (own : Nat → Nat) (b x : Nat) (r : Rn) : Prop where
  blk : ∃ cs, w.heap[b]? = some (.cells cs 187 (0, 0)) ∧ cs.size = 1059
  fs : ∀ c, c < 48 → w.cell? ⟨b, c, none⟩ = some (.string (r.fs c))
  last : ∀ c, c < 48 → AnsAt w b (48 + c * 5) (r.last c) (fun g => own g = 0)
  sp : w.cell? ⟨b, 288, none⟩ = some (.pointer (some ⟨x, 432, none⟩))
  way : w.cell? ⟨b, 289, none⟩ = some (.int .i64 r.way)
  tk : ∀ c, c < 48 → TR w own b c (r.tk c)
  bg : ∃ v, w.cell? ⟨b, 1058, none⟩ = some v ∧ SlC w own b 1 9 1 v r.bg.length (r.bg.map nmV)
  sto : StoR w own x r.store
  xblk : ∃ cs, w.heap[x]? = some (.cells cs 104 (0, 0)) ∧ cs.size = 755
  xb : x ≠ b
  xo : own x = 0
  bo : own b = 0
structure RStep (w : World) (own : Nat → Nat) (w' : World) (own' : Nat → Nat) (b x : Nat) : Prop where
  os : w'.os = w.os
  tape : w'.tape = w.tape
  output : w'.output = w.output
  size : w.heap.size ≤ w'.heap.size
  zero : ∀ k, k < w.heap.size → own k = 0 → own' k = 0
  blk : ∀ k, k < w.heap.size → own k = 0 → k ≠ b → k ≠ x → w'.heap[k]? = w.heap[k]?
  xs : ∀ j, (j < 432 ∨ 755 ≤ j) → w'.cell? ⟨x, j, none⟩ = w.cell? ⟨x, j, none⟩
section
variable {w w1 w2 w' : World} {own own1 own2 own' : Nat → Nat} {b x c : Nat} {r : Rn} {t : Tsk} {C : Nat → Prop} {lo hi : Nat}
theorem RStep.refl (w : World) (own : Nat → Nat) (b x : Nat) : RStep w own w own b x := ⟨rfl, rfl, rfl, Nat.le_refl _, fun _ _ h => h, fun _ _ _ _ _ => rfl, fun _ _ => rfl⟩
theorem RStep.trans (h : RStep w own w1 own1 b x) (g : RStep w1 own1 w2 own2 b x) : RStep w own w2 own2 b x where
  os := g.os.trans h.os
  tape := g.tape.trans h.tape
  output := g.output.trans h.output
  size := Nat.le_trans h.size g.size
  zero := fun k hk h0 => g.zero k (Nat.lt_of_lt_of_le hk h.size) (h.zero k hk h0)
  blk := fun k hk h0 hb hx => (g.blk k (Nat.lt_of_lt_of_le hk h.size) (h.zero k hk h0) hb hx).trans (h.blk k hk h0 hb hx)
  xs := fun j hj => (g.xs j hj).trans (h.xs j hj)
theorem RStep.below (h : Below w.heap.size w w') (ho : ∀ k, k < w.heap.size → own' k = own k) (hx : x < w.heap.size) : RStep w own w' own' b x :=
  ⟨h.os, h.tape, h.output, h.size, fun k hk h0 => by rw [ho k hk]; exact h0, fun k hk _ _ _ => h.block k hk, fun j _ => h.cell (p := ⟨x, j, none⟩) hx⟩
theorem RR.lt (h : RR w own b x r) : b < w.heap.size := by obtain ⟨cs, h1, _⟩ := h.blk; exact (Array.getElem?_eq_some_iff.1 h1).1
theorem RR.xlt (h : RR w own b x r) : x < w.heap.size := by obtain ⟨cs, h1, _⟩ := h.xblk; exact (Array.getElem?_eq_some_iff.1 h1).1
theorem RStep.chg (h : RR w own b x r) (g : Chg own C b lo hi w w') (h0 : ¬ C 0) (ho : ∀ k, k < w.heap.size → own k = 0 → own' k = 0) : RStep w own w' own' b x :=
  ⟨g.os, g.tape, g.output, g.size, ho, fun k hk hk0 hb _ => g.blk k hk hb (by rw [hk0]; exact h0), fun j _ => World.cell?_of_block (w := w) (g.blk x h.xlt h.xb (by rw [h.xo]; exact h0))⟩
theorem AnsAt.chg {o : Nat} {a : Ans} {bb : Nat} {cs : Array Value} {ty : TypeId} (h : AnsAt w bb o a (fun g => own g = 0)) (hc : ∀ t, t < 5 → w'.cell? ⟨bb, o + t, none⟩ = w.cell? ⟨bb, o + t, none⟩)
    (hk : ∀ k, k < w.heap.size → own k = 0 → k ≠ b → w'.heap[k]? = w.heap[k]?) (ho : ∀ k, k < w.heap.size → own k = 0 → own' k = 0) (hbr : ∀ cur, w.heap[b]? ≠ some (.cells cur 274 (0, 0))) : AnsAt w' bb o a (fun g => own' g = 0) :=
  h.kept hc fun g cur hg h0 => by
    have hl := (Array.getElem?_eq_some_iff.1 hg).1
    exact ⟨hk g hl h0 (fun e => hbr cur (e ▸ hg)), ho g hl h0⟩
theorem RR.notRead (h : RR w own b x r) : ∀ cur, w.heap[b]? ≠ some (.cells cur 274 (0, 0)) := by
  obtain ⟨cs, h1, _⟩ := h.blk
  intro cur e; rw [h1] at e; cases e
theorem KN.chg {j col : Nat} {l : List Ans} (h : KN w own b j col l) (hc : w'.cell? ⟨b, j, none⟩ = w.cell? ⟨b, j, none⟩) (hk : ∀ k, k < w.heap.size → own k = col → k ≠ b → w'.heap[k]? = w.heap[k]? ∧ own' k = col)
    (h0 : ∀ k, k < w.heap.size → own k = 0 → w'.heap[k]? = w.heap[k]? ∧ own' k = 0) : KN w' own' b j col l := by
  obtain ⟨v, xs, h1, h2, h3⟩ := h
  refine ⟨v, xs, by rw [hc]; exact h1, ⟨h2.sl.kept fun g hg => (hk g (h2.sl.lt g hg) (h2.col g hg).1 (h2.col g hg).2).1, fun g hg => ⟨(hk g (h2.sl.lt g hg) (h2.col g hg).1 (h2.col g hg).2).2, (h2.col g hg).2⟩⟩, AL.kept h0 l xs h3⟩
theorem SlC.move {col : Nat} {e : TypeId} {size : Nat} {v : Value} {n : Nat} {xs : List Value} (h : SlC w own b col e size v n xs) (hk : ∀ k, k < w.heap.size → own k = col → k ≠ b → w'.heap[k]? = w.heap[k]? ∧ own' k = col) : SlC w' own' b col e size v n xs :=
  ⟨h.sl.kept fun g hg => (hk g (h.sl.lt g hg) (h.col g hg).1 (h.col g hg).2).1, fun g hg => ⟨(hk g (h.sl.lt g hg) (h.col g hg).1 (h.col g hg).2).2, (h.col g hg).2⟩⟩
theorem MR.move {o cv cg st : Nat} {m : Mc} {nd : Nd} (h : MR w own b o cv cg m st nd) (hB : Blk w' b o) (hc : ∀ t, t < 7 → w'.cell? ⟨b, o + t, none⟩ = w.cell? ⟨b, o + t, none⟩)
    (hk : ∀ k, k < w.heap.size → (own k = 0 ∨ own k = cv ∨ own k = cg) → k ≠ b → w'.heap[k]? = w.heap[k]? ∧ own' k = own k) : MR w' own' b o cv cg m st nd where
  blk := hB
  code := by
    obtain ⟨v, h1, h2⟩ := h.code
    exact ⟨v, by rw [show o = o + 0 from rfl, hc 0 (by omega)]; exact h1, h2.move fun k hl e hb => ⟨(hk k hl (.inl e) hb).1, by rw [(hk k hl (.inl e) hb).2]; exact e⟩⟩
  at' := by rw [hc 1 (by omega)]; exact h.at'
  st := by rw [hc 2 (by omega)]; exact h.st
  nc := by rw [hc 3 (by omega)]; exact h.nc
  na := by rw [hc 4 (by omega)]; exact h.na
  vals := by
    obtain ⟨v, h1, h2⟩ := h.vals
    exact ⟨v, by rw [hc 5 (by omega)]; exact h1, h2.move fun k hl e hb => ⟨(hk k hl (.inr (.inl e)) hb).1, by rw [(hk k hl (.inr (.inl e)) hb).2]; exact e⟩⟩
  gds := by
    obtain ⟨v, h1, h2⟩ := h.gds
    exact ⟨v, by rw [hc 6 (by omega)]; exact h1, h2.move fun k hl e hb => ⟨(hk k hl (.inr (.inr e)) hb).1, by rw [(hk k hl (.inr (.inr e)) hb).2]; exact e⟩⟩
theorem TR.move (h : TR w own b c t) (hbr : ∀ cur, w.heap[b]? ≠ some (.cells cur 274 (0, 0))) (hbo : own b = 0 → True) (hB : Blk w' b (T c + 4)) (hc : ∀ j, j < 16 → w'.cell? ⟨b, T c + j, none⟩ = w.cell? ⟨b, T c + j, none⟩)
    (hk : ∀ k, k < w.heap.size → (own k = 0 ∨ cC c (own k)) → k ≠ b → w'.heap[k]? = w.heap[k]? ∧ own' k = own k) (h0 : ∀ (l : List Ans) (xs : List Value), AL w own l xs → AL w' own' l xs) : TR w' own' b c t where
  st := by rw [show T c = T c + 0 from rfl, hc 0 (by omega)]; exact h.st
  wt := by rw [hc 1 (by omega)]; exact h.wt
  kn := by
    obtain ⟨v, xs, h1, h2, h3⟩ := h.kn
    exact ⟨v, xs, by rw [hc 2 (by omega)]; exact h1, h2.move fun k hl e hb => ⟨(hk k hl (.inr (.inl e)) hb).1, by rw [(hk k hl (.inr (.inl e)) hb).2]; exact e⟩, h0 _ _ h3⟩
  held := by rw [hc 3 (by omega)]; exact h.held
  mz := fun e => (h.mz e).kept fun j _ hj => hc j (by omega)
  run := fun e => by
    obtain ⟨m, mst, nd, h1, h2, h3, h4⟩ := h.run e
    refine ⟨m, mst, nd, h1.move hB (fun j hj => by rw [Nat.add_assoc]; exact hc _ (by omega)) (fun k hl e hb => hk k hl (by rcases e with e | e | e; exact .inl e; exact .inr (.inr (.inl e)); exact .inr (.inr (.inr (.inl e)))) hb), h2, h3, ?_⟩
    refine h4.kept (fun j hj => by rw [Nat.add_assoc]; exact hc _ (by omega)) fun g cur hg hq => ?_
    have hl := (Array.getElem?_eq_some_iff.1 hg).1
    have := hk g hl (.inr (.inr (.inr (.inr hq.1)))) hq.2
    exact ⟨this.1, by rw [this.2]; exact hq.1, hq.2⟩
  ans := fun e => (h.ans e).kept (fun j hj => by rw [Nat.add_assoc]; exact hc _ (by omega)) fun g cur hg hq => by
    have hl := (Array.getElem?_eq_some_iff.1 hg).1
    have := hk g hl (.inl hq) (fun e => hbr cur (e ▸ hg))
    exact ⟨this.1, by rw [this.2]; exact hq⟩
theorem RR.task (h : RR w own b x r) (hc48 : c < 48) (g : Chg own (cC c) b (T c) (T c + 16) w w') (ho : ∀ k, k < w.heap.size → ¬ cC c (own k) → own' k = own k) (ht : TR w' own' b c t) : RR w' own' b x (r.put c t) ∧ RStep w own w' own' b x := by
  obtain ⟨cs, hb, hs⟩ := h.blk
  obtain ⟨cs', hb', hs', _⟩ := g.row cs 187 hb
  have hcell : ∀ j, (j < T c ∨ T c + 16 ≤ j) → w'.cell? ⟨b, j, none⟩ = w.cell? ⟨b, j, none⟩ := fun j hj => g.cell hb hj
  have k0 : ∀ k, k < w.heap.size → own k = 0 → k ≠ b → w'.heap[k]? = w.heap[k]? := fun k hk h0 hkb => g.blk k hk hkb (by rw [h0]; exact cC_zero c)
  have o0 : ∀ k, k < w.heap.size → own k = 0 → own' k = 0 := fun k hk h0 => by rw [ho k hk (by rw [h0]; exact cC_zero c)]; exact h0
  have hxb := k0 x h.xlt h.xo h.xb
  have hxc : ∀ j, w'.cell? ⟨x, j, none⟩ = w.cell? ⟨x, j, none⟩ := fun j => World.cell?_of_block (w := w) hxb
  have alk : ∀ (l : List Ans) (xs : List Value), AL w own l xs → AL w' own' l xs := by
    intro l
    induction l with
    | nil => intro xs h; exact h
    | cons a l ih =>
      intro xs ⟨rv, q, h1, h2, h3, h4⟩
      have hh : ∀ gg, rv.ownBlock = some gg → w'.heap[gg]? = w.heap[gg]? ∧ own' gg = 0 := fun gg hg => by
        have hl := h2.lt gg hg
        refine ⟨k0 gg hl (h3 gg hg) ?_, o0 gg hl (h3 gg hg)⟩
        intro e
        rcases h2.2 with ⟨rfl, _⟩ | ⟨g', o, cap, cur, rfl, hgb, _⟩
        · cases hg
        · cases hg
          have e : g' = b := e
          rw [e, hb] at hgb
          cases hgb
      exact ⟨rv, q, h1, h2.kept fun gg hg => (hh gg hg).1, fun gg hg => (hh gg hg).2, ih q h4⟩
  have ans : ∀ {bb o : Nat} {a : Ans}, AnsAt w bb o a (fun g => own g = 0) → (∀ t, t < 5 → w'.cell? ⟨bb, o + t, none⟩ = w.cell? ⟨bb, o + t, none⟩) → AnsAt w' bb o a (fun g => own' g = 0) := fun ha hcc =>
    ha.kept hcc fun gg cur hg h0 => by
      have hl := (Array.getElem?_eq_some_iff.1 hg).1
      exact ⟨k0 gg hl h0 (fun e => h.notRead cur (e ▸ hg)), o0 gg hl h0⟩
  refine ⟨{ blk := ⟨cs', hb', by rw [hs', hs]⟩, fs := fun d hd => by rw [hcell d (by unfold T; omega)]; exact h.fs d hd, last := fun d hd => ans (h.last d hd) (fun j hj => hcell _ (by unfold T; omega)), sp := by rw [hcell _ (by unfold T; omega)]; exact h.sp, way := by rw [hcell _ (by unfold T; omega)]; exact h.way, tk := ?_, bg := ?_, sto := ?_, xblk := by rw [hxb]; exact h.xblk, xb := h.xb, xo := o0 x h.xlt h.xo, bo := o0 b h.lt h.bo }, RStep.chg h g (cC_zero c) o0⟩
  · intro d hd
    by_cases hdc : d = c
    · subst hdc; rw [put_same]; exact ht
    · rw [put_ne _ _ _ hdc]
      refine (h.tk d hd).move h.notRead (fun _ => trivial) ⟨cs', 187, hb', by unfold T; omega⟩ (fun j hj => hcell _ (by unfold T; omega)) (fun k hl e hkb => ?_) alk
      have hn : ¬ cC c (own k) := by
        rcases e with e | e
        · rw [e]; exact cC_zero c
        · exact cC_other hdc e
      exact ⟨g.blk k hl hkb hn, ho k hl hn⟩
  · obtain ⟨v, h1, h2⟩ := h.bg
    refine ⟨v, by rw [hcell _ (by unfold T; omega)]; exact h1, h2.move fun k hl e hkb => ?_⟩
    have hn : ¬ cC c (own k) := by rw [e]; exact cC_one c
    exact ⟨g.blk k hl hkb hn, by rw [ho k hl hn]; exact e⟩
  · exact { places := by rw [hxc]; exact h.sto.places, size := by rw [hxc]; exact h.sto.size, next := by rw [hxc]; exact h.sto.next, len := h.sto.len, kept := fun j a hj => ans (h.sto.kept j a hj) (fun t _ => hxc _) }
theorem RR.below (h : RR w own b x r) (hb : Below w.heap.size w w') (ho : ∀ k, k < w.heap.size → own' k = own k) : RR w' own' b x r ∧ RStep w own w' own' b x := by
  obtain ⟨cs, hbk, hs⟩ := h.blk
  have hcell : ∀ j, w'.cell? ⟨b, j, none⟩ = w.cell? ⟨b, j, none⟩ := fun j => hb.cell (p := ⟨b, j, none⟩) h.lt
  have hxc : ∀ j, w'.cell? ⟨x, j, none⟩ = w.cell? ⟨x, j, none⟩ := fun j => hb.cell (p := ⟨x, j, none⟩) h.xlt
  have hk : ∀ k, k < w.heap.size → w'.heap[k]? = w.heap[k]? := fun k hk => hb.block k hk
  have alk : ∀ (l : List Ans) (xs : List Value), AL w own l xs → AL w' own' l xs := AL.kept fun k hl h0 => ⟨hk k hl, by rw [ho k hl]; exact h0⟩
  have ans : ∀ {bb o : Nat} {a : Ans}, AnsAt w bb o a (fun g => own g = 0) → (∀ t, t < 5 → w'.cell? ⟨bb, o + t, none⟩ = w.cell? ⟨bb, o + t, none⟩) → AnsAt w' bb o a (fun g => own' g = 0) := fun ha hcc =>
    ha.kept hcc fun gg cur hg h0 => by
      have hl := (Array.getElem?_eq_some_iff.1 hg).1
      exact ⟨hk gg hl, by rw [ho gg hl]; exact h0⟩
  refine ⟨{ blk := ⟨cs, by rw [hk b h.lt]; exact hbk, hs⟩, fs := fun d hd => by rw [hcell]; exact h.fs d hd, last := fun d hd => ans (h.last d hd) (fun j hj => hcell _), sp := by rw [hcell]; exact h.sp, way := by rw [hcell]; exact h.way, tk := ?_, bg := ?_, sto := ?_, xblk := by rw [hk x h.xlt]; exact h.xblk, xb := h.xb, xo := by rw [ho x h.xlt]; exact h.xo, bo := by rw [ho b h.lt]; exact h.bo }, RStep.below hb ho h.xlt⟩
  · intro d hd
    exact (h.tk d hd).move h.notRead (fun _ => trivial) ⟨cs, 187, by rw [hk b h.lt]; exact hbk, by unfold T; omega⟩ (fun j hj => hcell _) (fun k hl e hkb => ⟨hk k hl, ho k hl⟩) alk
  · obtain ⟨v, h1, h2⟩ := h.bg
    exact ⟨v, by rw [hcell]; exact h1, h2.move fun k hl e hkb => ⟨hk k hl, by rw [ho k hl]; exact e⟩⟩
  · exact { places := by rw [hxc]; exact h.sto.places, size := by rw [hxc]; exact h.sto.size, next := by rw [hxc]; exact h.sto.next, len := h.sto.len, kept := fun j a hj => ans (h.sto.kept j a hj) (fun t _ => hxc _) }
end
def RS (w : World) (own : Nat → Nat) (b x : Nat) (w' : World) (r' : Rn) : Prop := ∃ own', RR w' own' b x r' ∧ RStep w own w' own' b x
theorem RS.comp {w w1 w2 : World} {own own1 : Nat → Nat} {b x : Nat} {r : Rn} (h : RStep w own w1 own1 b x) (g : RS w1 own1 b x w2 r) : RS w own b x w2 r := by
  obtain ⟨o, h1, h2⟩ := g
  exact ⟨o, h1, h.trans h2⟩
theorem RS.then {w w1 w2 : World} {own : Nat → Nat} {b x : Nat} {r : Rn} (h : RS w own b x w1 r) (g : Below w1.heap.size w1 w2) : RS w own b x w2 r := by
  obtain ⟨o, h1, h2⟩ := h
  obtain ⟨h3, h4⟩ := h1.below (own' := o) g (fun _ _ => rfl)
  exact ⟨o, h3, h2.trans h4⟩
end Go.Proofs.YtlpmmmmniojflaaGreatDoor
/- A working out, walked: leave, waitsFor, look. -/
set_option linter.unusedVariables false
set_option linter.unusedSimpArgs false
namespace Go.Proofs.YtlpmmmmniojflaaGreatDoor
open Go.RowKit
structure WtOK (r : Rn) : Prop where
  ends : EndW r.wts
  rng : ∀ c, -1 ≤ (r.tk c).wt ∧ (r.tk c).wt < 48
section
variable {w w' : World} {own own' : Nat → Nat} {b x c : Nat} {r : Rn} {t t' : Tsk}
theorem RR.frozen (h : RR w own b x r) (j : Nat) : w.frozen? ⟨b, j, none⟩ = false := by obtain ⟨cs, h1, _⟩ := h.blk; simp [World.frozen?, h1]
theorem AL.setB {l : List Ans} {xs : List Value} (h : AL w own l xs) {cs : Array Value} (hb : w.heap[b]? = some (.cells cs 187 (0, 0))) (j : Nat) (v : Value) : AL (w.setCell ⟨b, j, none⟩ v) own l xs := by
  induction l generalizing xs with
  | nil => exact h
  | cons a l ih =>
    obtain ⟨rv, q, h1, h2, h3, h4⟩ := h
    refine ⟨rv, q, h1, h2.kept fun g hg => Below.heap_setCell _ _ _ _ ?_, h3, ih h4⟩
    intro e
    have e : g = b := e
    rcases h2.2 with ⟨rfl, _⟩ | ⟨g', o, cap, cur, rfl, hgb, _⟩
    · cases hg
    · cases hg
      have e : g' = b := e
      rw [e, hb] at hgb
      cases hgb
theorem cset187 {cs : Array Value} (hb : w.heap[b]? = some (.cells cs 187 (0, 0))) {i j : Nat} (hj : i ≠ j) (v : Value) : (w.setCell ⟨b, j, none⟩ v).cell? ⟨b, i, none⟩ = w.cell? ⟨b, i, none⟩ := by
  rw [cell_of_row _ b i _ 187 (0, 0) (rset hb), cell_of_row _ b i _ 187 (0, 0) hb, Array.getElem?_setIfInBounds_ne (fun e => hj e.symm)]
theorem csame187 {cs : Array Value} (hb : w.heap[b]? = some (.cells cs 187 (0, 0))) {j : Nat} (hj : j < cs.size) (v : Value) : (w.setCell ⟨b, j, none⟩ v).cell? ⟨b, j, none⟩ = some v := by
  rw [cell_of_row _ b j _ 187 (0, 0) (rset hb), Array.getElem?_setIfInBounds_self_of_lt hj]
theorem KN.setB {j' col : Nat} {l : List Ans} (h : KN w own b j' col l) {cs : Array Value} (hb : w.heap[b]? = some (.cells cs 187 (0, 0))) {j : Nat} (hj : j' ≠ j) (v : Value) : KN (w.setCell ⟨b, j, none⟩ v) own b j' col l := by
  obtain ⟨u, xs, h1, h2, h3⟩ := h
  exact ⟨u, xs, by rw [cset187 hb hj]; exact h1, ⟨h2.sl.kept fun g hg => Below.heap_setCell _ _ _ _ (h2.col g hg).2, h2.col⟩, h3.setB hb j v⟩
theorem RR.setSt (h : RR w own b x r) (hc : c < 48) (q : Int) (s : Nat) (hq : q = s) (hs : s < 2) : RS w own b x (w.setCell ⟨b, T c, none⟩ (.int .i64 q)) (r.put c { r.tk c with st := s }) := by
  subst hq
  obtain ⟨cs, hb, hsz⟩ := h.blk
  have ht := h.tk c hc
  refine ⟨own, h.task hc ((Chg.refl _ _ _ _ _ _).put (Nat.le_refl _) (by omega) _) (fun _ _ _ => rfl) ?_⟩
  exact { st := csame187 hb (by unfold T; omega) _, wt := by rw [cset187 hb (by omega)]; exact ht.wt, kn := ht.kn.setB hb (by omega) _, held := by rw [cset187 hb (by omega)]; exact ht.held, run := fun e => by have e : s = 2 := e; omega, ans := fun e => by have e : s = 3 := e; omega, mz := fun e => by have e : s = 3 := e; omega }
theorem RR.setWt (h : RR w own b x r) (hc : c < 48) (o : Int) : RS w own b x (w.setCell ⟨b, T c + 1, none⟩ (.int .i64 o)) (r.put c { r.tk c with wt := o }) := by
  obtain ⟨cs, hb, hsz⟩ := h.blk
  have ht := h.tk c hc
  have g : Chg own (cC c) b (T c) (T c + 16) w (w.setCell ⟨b, T c + 1, none⟩ (.int .i64 o)) := (Chg.refl _ _ _ _ _ _).put (by omega) (by omega) _
  refine ⟨own, h.task hc g (fun _ _ _ => rfl) ?_⟩
  have hoff : ∀ j, j ≠ T c + 1 → (w.setCell ⟨b, T c + 1, none⟩ (.int .i64 o)).cell? ⟨b, j, none⟩ = w.cell? ⟨b, j, none⟩ := fun j hj => cset187 hb hj _
  refine { st := by rw [hoff _ (by omega)]; exact ht.st, wt := csame187 hb (by unfold T; omega) _, kn := ht.kn.setB hb (by omega) _, held := by rw [hoff _ (by omega)]; exact ht.held, run := fun e => ?_, ans := fun e => ?_, mz := fun e => (ht.mz e).kept fun j h4 hj => hoff _ (by omega) }
  · obtain ⟨m, mst, nd, h1, h2, h3, h4⟩ := ht.run e
    refine ⟨m, mst, nd, h1.move (h1.blk.set _ _) (fun j hj => hoff _ (by omega)) (fun k hl _ hkb => ⟨Below.heap_setCell _ _ _ _ hkb, rfl⟩), h2, h3, h4.kept (fun j hj => hoff _ (by omega)) fun g cur hg hq => ⟨Below.heap_setCell _ _ _ _ hq.2, hq⟩⟩
  · exact (ht.ans e).kept (fun j hj => hoff _ (by omega)) fun g cur hg hq => ⟨Below.heap_setCell _ _ _ _ (fun e => h.notRead cur ((show g = b from e) ▸ hg)), hq⟩
theorem RR.setHeld (h : RR w own b x r) (hc : c < 48) (q : Int) (s : Nat) (hq : q = s) : RS w own b x (w.setCell ⟨b, T c + 3, none⟩ (.int .i64 q)) (r.put c { r.tk c with held := s }) := by
  subst hq
  obtain ⟨cs, hb, hsz⟩ := h.blk
  have ht := h.tk c hc
  have g : Chg own (cC c) b (T c) (T c + 16) w (w.setCell ⟨b, T c + 3, none⟩ (.int .i64 s)) := (Chg.refl _ _ _ _ _ _).put (by omega) (by omega) _
  refine ⟨own, h.task hc g (fun _ _ _ => rfl) ?_⟩
  have hoff : ∀ j, j ≠ T c + 3 → (w.setCell ⟨b, T c + 3, none⟩ (.int .i64 s)).cell? ⟨b, j, none⟩ = w.cell? ⟨b, j, none⟩ := fun j hj => cset187 hb hj _
  refine { st := by rw [hoff _ (by omega)]; exact ht.st, wt := by rw [hoff _ (by omega)]; exact ht.wt, kn := ht.kn.setB hb (by omega) _, held := csame187 hb (by unfold T; omega) _, run := fun e => ?_, ans := fun e => ?_, mz := fun e => (ht.mz e).kept fun j h4 hj => hoff _ (by omega) }
  · obtain ⟨m, mst, nd, h1, h2, h3, h4⟩ := ht.run e
    refine ⟨m, mst, nd, h1.move (h1.blk.set _ _) (fun j hj => hoff _ (by omega)) (fun k hl _ hkb => ⟨Below.heap_setCell _ _ _ _ hkb, rfl⟩), h2, h3, h4.kept (fun j hj => hoff _ (by omega)) fun g cur hg hq => ⟨Below.heap_setCell _ _ _ _ hq.2, hq⟩⟩
  · exact (ht.ans e).kept (fun j hj => hoff _ (by omega)) fun g cur hg hq => ⟨Below.heap_setCell _ _ _ _ (fun e => h.notRead cur ((show g = b from e) ▸ hg)), hq⟩
end
theorem T_addr (c : Nat) : 290 + c * 16 = T c := by unfold T; omega
set_option maxRecDepth 100000 in
set_option maxHeartbeats 2000000 in
theorem leave_w (w : World) (own : Nat → Nat) (b x : Nat) (r : Rn) (c : Nat) (hc : c < 48) (h : Hid (RR w own b x r)) :
    Calls Tryz.prog 116 #[.pointer (some ⟨b, 0, none⟩), .int .i64 c] w fun e w' => e = .returned (.tuple #[]) ∧ Hid (RS w own b x w' (leaveP r c)) := by
  have h1 := (h.out.tk c hc).st
  rw [← T_addr] at h1
  have hf := h.out.frozen (290 + c * 16)
  have hci : (c : Int) < 48 := by omega
  have hc0 : 0 ≤ (c : Int) := by omega
  go_enter Tryz.func116, Tryz.ntmps116
  go_wp2_with fail
  refine bodyPost_end (results_none rfl _ _ _) rfl ⟨rfl, ?_⟩
  have := h.out.setSt hc 0 0 rfl (by omega)
  rw [← T_addr] at this
  exact this
set_option maxRecDepth 100000 in
set_option maxHeartbeats 2000000 in
theorem waitsFor_w (w : World) (own : Nat → Nat) (b x : Nat) (r : Rn) (o c : Nat) (ho : o < 48) (hc : c < 48) (h : Hid (RR w own b x r)) (hW : Hid (WtOK r)) (W : Bool) (hWW : Hid (W = true ↔ ∃ m, along r.wts m o = c)) :
    Calls Tryz.prog 198 #[.pointer (some ⟨b, 0, none⟩), .int .i64 o, .int .i64 c] w fun e w' => e = .returned (.bool W) ∧ w' = w := by
  obtain ⟨n0, hn0⟩ := hW.out.ends o
  have HN0 : Hid _ := hn0
  have HC : Hid (c < 48) := hc
  have HO : Hid (o < 48) := ho
  have wneg : ∀ m, along r.wts m (-1) = -1 := by
    intro m
    induction m with
    | zero => rfl
    | succ m ih => exact ih
  have HNEG : Hid _ := wneg
  clear hn0 hc ho wneg
  go_enter Tryz.func198, Tryz.ntmps198
  go_wp2_with fail
  go_loopg [1] n0 (fun g s wr => ∃ y : Int, s = .int .i64 y ∧ wr = w ∧ Hid (-1 ≤ y ∧ y < 48) ∧ Hid (along r.wts g y = -1) ∧ Hid ((∃ m, along r.wts m o = c) ↔ ∃ m, along r.wts m y = c))
  case atStart => exact ⟨o, rfl, rfl, by have := HO.out; unfold Hid; omega, HN0.out, Iff.rfl⟩
  case round =>
    obtain ⟨y, rfl, rfl, HY, HA, HI⟩ := hrel
    by_cases hy : y = -1
    · have b1 : (y != -1) = false := by simpa using hy
      have hne : (y == (c : Int)) = false := by simpa using (by omega : y ≠ (c : Int))
      have HF : Hid (W = false) := by
        unfold Hid
        cases hw : W with
        | false => rfl
        | true =>
          obtain ⟨m, hm⟩ := HI.out.1 (hWW.out.1 hw)
          rw [hy, HNEG.out m] at hm
          omega
      go_wp2_with fail
      go_ret
      rw [HF.out]
      exact ⟨rfl, rfl⟩
    · have b1 : (y != -1) = true := by simpa using hy
      by_cases hyc : y = (c : Int)
      · have b2 : (y != (c : Int)) = false := by simpa using hyc
        have b3 : (y == (c : Int)) = true := by simpa using hyc
        have HF : Hid (W = true) := hWW.out.2 (HI.out.2 ⟨0, hyc⟩)
        clear hyc
        go_wp2_with fail
        go_ret
        rw [HF.out]
        exact ⟨rfl, rfl⟩
      · have b2 : (y != (c : Int)) = true := by simpa using hyc
        obtain ⟨z, rfl⟩ : ∃ z : Nat, y = z := ⟨y.toNat, by have := HY.out; omega⟩
        have hz : z < 48 := by have := HY.out; omega
        have hzi : (z : Int) < 48 := by omega
        have hz0 : 0 ≤ (z : Int) := by omega
        have hw1 := (h.out.tk z hz).wt
        rw [← T_addr] at hw1
        have HR : Hid (-1 ≤ (r.tk z).wt ∧ (r.tk z).wt < 48) := hW.out.rng z
        have HYC : Hid ((z : Int) ≠ (c : Int)) := hyc
        have hstep : (if 0 ≤ (z : Int) then r.wts (z : Int).toNat else -1) = (r.tk z).wt := by rw [if_pos hz0, Int.toNat_natCast]; rfl
        have HST : Hid _ := hstep
        clear hyc hy hstep
        go_wp2_with fail
        match gk, HA with
        | 0, HA => exact absurd HA.out (by show ¬ (z : Int) = -1; omega)
        | g + 1, HA =>
          go_roundg g
          case rel =>
            refine ⟨(r.tk z).wt, rfl, rfl, HR, ?_, ?_⟩
            · have : along r.wts g (if 0 ≤ (z : Int) then r.wts (z : Int).toNat else -1) = -1 := HA.out
              rw [HST.out] at this; exact this
            · unfold Hid
              rw [HI.out]
              constructor
              · rintro ⟨m, hm⟩
                cases m with
                | zero => exact absurd hm HYC.out
                | succ m =>
                  have hm : along r.wts m (if 0 ≤ (z : Int) then r.wts (z : Int).toNat else -1) = c := hm
                  rw [HST.out] at hm
                  exact ⟨m, hm⟩
              · rintro ⟨m, hm⟩
                refine ⟨m + 1, ?_⟩
                show along r.wts m (if 0 ≤ (z : Int) then r.wts (z : Int).toNat else -1) = c
                rw [HST.out]; exact hm
          case measure => omega
end Go.Proofs.YtlpmmmmniojflaaGreatDoor
/- A working out in memory: what its callers' own rows, and the chain, change. -/
set_option linter.unusedVariables false
set_option linter.unusedSimpArgs false
namespace Go.Proofs.YtlpmmmmniojflaaGreatDoor
open Go.RowKit
def Nt (w : World) (k : Nat) : Prop := ∀ cur e f, w.heap[k]? = some (.cells cur e f) → e ≠ 3 ∧ e ≠ 104
section
variable {w w' w1 w2 : World} {own own' own1 own2 : Nat → Nat} {b x : Nat} {r : Rn}
theorem nt_of {k : Nat} {cur : Array Value} {e : TypeId} {f : Nat × Nat} (h : w.heap[k]? = some (.cells cur e f)) (he : e ≠ 3 ∧ e ≠ 104) : Nt w k := fun cur' e' f' hh => by rw [h] at hh; cases hh; exact he
theorem Slc.nt {e : TypeId} {size : Nat} {v : Value} {n : Nat} {xs : List Value} (h : Slc w e size v n xs) (he : e ≠ 3 ∧ e ≠ 104) (hk : ∀ k, k < w.heap.size → Nt w k → w'.heap[k]? = w.heap[k]?) : Slc w' e size v n xs := by
  refine h.kept fun g hg => ?_
  rcases h.2 with ⟨rfl, _⟩ | ⟨g', o, cap, cur, rfl, hb, _⟩
  · cases hg
  · cases hg
    exact hk _ (Array.getElem?_eq_some_iff.1 hb).1 (nt_of hb he)
theorem SlC.nt {col : Nat} {e : TypeId} {size : Nat} {v : Value} {n : Nat} {xs : List Value} (h : SlC w own b col e size v n xs) (he : e ≠ 3 ∧ e ≠ 104) (hk : ∀ k, k < w.heap.size → Nt w k → w'.heap[k]? = w.heap[k]?) (ho : ∀ k, k < w.heap.size → own' k = own k) : SlC w' own' b col e size v n xs :=
  ⟨h.sl.nt he hk, fun g hg => by rw [ho g (h.sl.lt g hg)]; exact h.col g hg⟩
theorem AL.nt (hk : ∀ k, k < w.heap.size → Nt w k → w'.heap[k]? = w.heap[k]?) (ho : ∀ k, k < w.heap.size → own' k = own k) : ∀ (l : List Ans) (xs : List Value), AL w own l xs → AL w' own' l xs
  | [], xs, h => h
  | a :: l, xs, ⟨rv, r, h1, h2, h3, h4⟩ => ⟨rv, r, h1, Slc.nt h2 ⟨by decide, by decide⟩ hk, fun g hg => by rw [ho g (h2.lt g hg)]; exact h3 g hg, AL.nt hk ho l r h4⟩
theorem AnsAt.nt {bb o : Nat} {a : Ans} {Q Q' : Nat → Prop} (h : AnsAt w bb o a Q) (hc : ∀ t, t < 5 → w'.cell? ⟨bb, o + t, none⟩ = w.cell? ⟨bb, o + t, none⟩) (hk : ∀ k, k < w.heap.size → Nt w k → w'.heap[k]? = w.heap[k]?) (hQ : ∀ k, k < w.heap.size → Q k → Q' k) : AnsAt w' bb o a Q' :=
  h.kept hc fun gg cur hg h0 => by
    have hl := (Array.getElem?_eq_some_iff.1 hg).1
    exact ⟨hk gg hl (nt_of hg ⟨by decide, by decide⟩), hQ gg hl h0⟩
theorem RR.but (h : RR w own b x r) (hk : ∀ k, k < w.heap.size → Nt w k → w'.heap[k]? = w.heap[k]?) (hx : ∃ cs, w'.heap[x]? = some (.cells cs 104 (0, 0)) ∧ cs.size = 755) (hxc : ∀ j, 432 ≤ j → w'.cell? ⟨x, j, none⟩ = w.cell? ⟨x, j, none⟩) (ho : ∀ k, k < w.heap.size → own' k = own k) : RR w' own' b x r := by
  obtain ⟨cs, hbk, hs⟩ := h.blk
  have hb : w'.heap[b]? = w.heap[b]? := hk b h.lt (nt_of hbk ⟨by decide, by decide⟩)
  have hcell : ∀ j, w'.cell? ⟨b, j, none⟩ = w.cell? ⟨b, j, none⟩ := fun j => World.cell?_of_block (w := w) hb
  have h0 : ∀ k, k < w.heap.size → own k = 0 → own' k = 0 := fun k hl e => by rw [ho k hl]; exact e
  refine { blk := ⟨cs, by rw [hb]; exact hbk, hs⟩, fs := fun d hd => by rw [hcell]; exact h.fs d hd, last := fun d hd => (h.last d hd).nt (fun j hj => hcell _) hk h0, sp := by rw [hcell]; exact h.sp, way := by rw [hcell]; exact h.way, tk := ?_, bg := ?_, sto := ?_, xblk := hx, xb := h.xb, xo := by rw [ho x h.xlt]; exact h.xo, bo := by rw [ho b h.lt]; exact h.bo }
  · intro d hd
    have ht := h.tk d hd
    refine { st := by rw [hcell]; exact ht.st, wt := by rw [hcell]; exact ht.wt, kn := ?_, held := by rw [hcell]; exact ht.held, run := fun e => ?_, ans := fun e => (ht.ans e).nt (fun j hj => hcell _) hk h0, mz := fun e => (ht.mz e).kept fun j _ _ => hcell _ }
    · obtain ⟨v, xs, h1, h2, h3⟩ := ht.kn
      exact ⟨v, xs, by rw [hcell]; exact h1, h2.nt ⟨by decide, by decide⟩ hk ho, AL.nt hk ho _ _ h3⟩
    · obtain ⟨m, mst, nd, h1, h2, h3, h4⟩ := ht.run e
      refine ⟨m, mst, nd, { blk := ?_, code := ?_, at' := by rw [hcell]; exact h1.at', st := by rw [hcell]; exact h1.st, nc := by rw [hcell]; exact h1.nc, na := by rw [hcell]; exact h1.na, vals := ?_, gds := ?_ }, h2, h3, h4.nt (fun j hj => hcell _) hk (fun k hl e => ⟨by rw [ho k hl]; exact e.1, e.2⟩)⟩
      · obtain ⟨cs', t', b1, b2⟩ := h1.blk
        exact ⟨cs', t', by rw [hb]; exact b1, b2⟩
      · obtain ⟨v, a1, a2⟩ := h1.code
        exact ⟨v, by rw [hcell]; exact a1, a2.nt ⟨by decide, by decide⟩ hk ho⟩
      · obtain ⟨v, a1, a2⟩ := h1.vals
        exact ⟨v, by rw [hcell]; exact a1, a2.nt ⟨by decide, by decide⟩ hk ho⟩
      · obtain ⟨v, a1, a2⟩ := h1.gds
        exact ⟨v, by rw [hcell]; exact a1, a2.nt ⟨by decide, by decide⟩ hk ho⟩
  · obtain ⟨v, h1, h2⟩ := h.bg
    exact ⟨v, by rw [hcell]; exact h1, h2.nt ⟨by decide, by decide⟩ hk ho⟩
  · exact { places := by rw [hxc _ (by omega)]; exact h.sto.places, size := by rw [hxc _ (by omega)]; exact h.sto.size, next := by rw [hxc _ (by omega)]; exact h.sto.next, len := h.sto.len, kept := fun j a hj => (h.sto.kept j a hj).nt (fun t _ => hxc _ (by omega)) hk h0 }
def ChA (w : World) (x : Nat) (l : List Nat) : Prop := l.length = 48 ∧ ∀ (j c : Nat), l[j]? = some c → w.cell? ⟨x, 384 + j, none⟩ = some (.int .i64 c)
structure RSC (w : World) (own : Nat → Nat) (w' : World) (own' : Nat → Nat) (b x : Nat) : Prop where
  os : w'.os = w.os
  tape : w'.tape = w.tape
  output : w'.output = w.output
  size : w.heap.size ≤ w'.heap.size
  zero : ∀ k, k < w.heap.size → own k = 0 → own' k = 0
  blk : ∀ k, k < w.heap.size → own k = 0 → k ≠ b → k ≠ x → w'.heap[k]? = w.heap[k]?
  xs : ∀ j, (j < 384 ∨ 755 ≤ j) → w'.cell? ⟨x, j, none⟩ = w.cell? ⟨x, j, none⟩
theorem RSC.refl (w : World) (own : Nat → Nat) (b x : Nat) : RSC w own w own b x := ⟨rfl, rfl, rfl, Nat.le_refl _, fun _ _ h => h, fun _ _ _ _ _ => rfl, fun _ _ => rfl⟩
theorem RSC.trans (h : RSC w own w1 own1 b x) (g : RSC w1 own1 w2 own2 b x) : RSC w own w2 own2 b x where
  os := g.os.trans h.os
  tape := g.tape.trans h.tape
  output := g.output.trans h.output
  size := Nat.le_trans h.size g.size
  zero := fun k hk h0 => g.zero k (Nat.lt_of_lt_of_le hk h.size) (h.zero k hk h0)
  blk := fun k hk h0 hb hx => (g.blk k (Nat.lt_of_lt_of_le hk h.size) (h.zero k hk h0) hb hx).trans (h.blk k hk h0 hb hx)
  xs := fun j hj => (g.xs j hj).trans (h.xs j hj)
theorem RStep.toC (h : RStep w own w1 own1 b x) : RSC w own w1 own1 b x := ⟨h.os, h.tape, h.output, h.size, h.zero, h.blk, fun j hj => h.xs j (by omega)⟩
theorem ChA.step {l : List Nat} (h : ChA w x l) (g : RStep w own w1 own1 b x) : ChA w1 x l := ⟨h.1, fun j c hj => by
  have := (List.getElem?_eq_some_iff.1 hj).1
  rw [g.xs _ (by have := h.1; omega)]; exact h.2 j c hj⟩
structure Mv (x : Nat) (w w' : World) : Prop where
  os : w'.os = w.os
  tape : w'.tape = w.tape
  output : w'.output = w.output
  size : w'.heap.size = w.heap.size
  blk : ∀ k, k ≠ x → w'.heap[k]? = w.heap[k]?
  xb : ∀ cs, w.heap[x]? = some (.cells cs 104 (0, 0)) → ∃ cs', w'.heap[x]? = some (.cells cs' 104 (0, 0)) ∧ cs'.size = cs.size
  xs : ∀ j, (j < 384 ∨ 432 ≤ j) → w'.cell? ⟨x, j, none⟩ = w.cell? ⟨x, j, none⟩
theorem Mv.refl (x : Nat) (w : World) : Mv x w w := ⟨rfl, rfl, rfl, rfl, fun _ _ => rfl, fun cs h => ⟨cs, h, rfl⟩, fun _ _ => rfl⟩
theorem Mv.trans (h : Mv x w w1) (g : Mv x w1 w2) : Mv x w w2 where
  os := g.os.trans h.os
  tape := g.tape.trans h.tape
  output := g.output.trans h.output
  size := g.size.trans h.size
  blk := fun k hk => (g.blk k hk).trans (h.blk k hk)
  xb := fun cs hc => by
    obtain ⟨c1, h1, h2⟩ := h.xb cs hc
    obtain ⟨c2, h3, h4⟩ := g.xb c1 h1
    exact ⟨c2, h3, h4.trans h2⟩
  xs := fun j hj => (g.xs j hj).trans (h.xs j hj)
theorem mv_set {j : Nat} (h1 : 384 ≤ j) (h2 : j < 432) (v : Value) : Mv x w (w.setCell ⟨x, j, none⟩ v) where
  os := by first | rfl | (simp [World.setCell]; done)
  tape := by first | rfl | (simp [World.setCell]; done)
  output := by first | rfl | (simp [World.setCell]; done)
  size := by first | rfl | (simp [World.setCell]; done)
  blk := fun k hk => Below.heap_setCell _ _ _ _ hk
  xb := fun cs hc => ⟨_, rset hc, by simp⟩
  xs := fun i hi => World.cell?_setCell_other _ _ _ _ (fun e => by cases e; omega)
theorem mv_cells : ∀ (vs : List Value) (o : Nat) (w : World), 384 ≤ o → o + vs.length ≤ 432 → Mv x w (w.setCells x o vs)
  | [], o, w, _, _ => Mv.refl x w
  | v :: r, o, w, h1, h2 => by
    rw [List.length_cons] at h2
    exact (mv_set h1 (by omega) v).trans (mv_cells r (o + 1) _ (by omega) (by omega))
theorem RR.mv (h : RR w own b x r) (g : Mv x w w') : RR w' own b x r := by
  obtain ⟨cs, hx, hs⟩ := h.xblk
  obtain ⟨cs', hx', hs'⟩ := g.xb cs hx
  refine h.but (fun k hl hn => g.blk k fun e => ?_) ⟨cs', hx', hs'.trans hs⟩ (fun j hj => g.xs j (.inr hj)) (fun _ _ => rfl)
  exact (hn cs 104 (0, 0) (by rw [e]; exact hx)).2 rfl
theorem RSC.mv (h : RSC w own w1 own1 b x) (g : Mv x w1 w2) : RSC w own w2 own1 b x :=
  h.trans ⟨g.os, g.tape, g.output, Nat.le_of_eq g.size.symm, fun _ _ h => h, fun k _ _ _ hx => g.blk k hx, fun j hj => g.xs j (by omega)⟩
structure QV (w : World) (own : Nat → Nat) (b x lim : Nat) (v : Value) (q : List Nat) : Prop where
  sl : Slc w 3 1 v q.length (q.map intV)
  o : ∀ g, v.ownBlock = some g → lim ≤ g ∧ own g = 0 ∧ g ≠ b ∧ g ≠ x
theorem QV.step {lim : Nat} {v : Value} {q : List Nat} (h : QV w own b x lim v q) (g : RStep w own w' own' b x) : QV w' own' b x lim v q :=
  ⟨h.sl.kept fun k hk => g.blk k (h.sl.lt k hk) (h.o k hk).2.1 (h.o k hk).2.2.1 (h.o k hk).2.2.2, fun k hk => ⟨(h.o k hk).1, g.zero k (h.sl.lt k hk) (h.o k hk).2.1, (h.o k hk).2.2⟩⟩
theorem RR.queue {lim : Nat} {v v1 : Value} {q q' : List Nat} {W : World} {w0 : World} {own0 : Nat → Nat} (h : RR w own b x r) (hq : QV w own b x lim v q) (hS : RStep w0 own0 w own b x) (hlim : w0.heap.size ≤ lim) (hl : lim ≤ w.heap.size) (hxl : x < w0.heap.size) (hW : Below w.heap.size w W)
    (hg : W.grownBy w1 v.ownBlock) (hob : (v1.ownBlock = v.ownBlock ∧ v.ownBlock ≠ none) ∨ (∃ z, w.heap.size ≤ z ∧ v1.ownBlock = some z)) (hsl : Slc w1 3 1 v1 q'.length (q'.map intV)) :
    ∃ own', RR w1 own' b x r ∧ QV w1 own' b x lim v1 q' ∧ RStep w0 own0 w1 own' b x := by
  have ho : ∀ k, k < w.heap.size → (if k < w.heap.size then own k else 0) = own k := fun k hk => if_pos hk
  have hne : ∀ k, k < w.heap.size → v.ownBlock ≠ some k → w1.heap[k]? = w.heap[k]? := fun k hk hn => by
    rw [hg.block k (Nat.lt_of_lt_of_le hk hW.size) (fun e => hn e.symm), hW.block k hk]
  have hxx : w1.heap[x]? = w.heap[x]? := hne x h.xlt fun e => (hq.o x e).2.2.2 rfl
  refine ⟨fun k => if k < w.heap.size then own k else 0, h.but ?_ ?_ ?_ ho, ⟨hsl, ?_⟩, ?_⟩
  · intro k hk hn
    refine hne k hk fun e => ?_
    rcases hq.sl.2 with ⟨rfl, _⟩ | ⟨g', o', cap, cur, rfl, hb, _⟩
    · cases e
    · cases e
      exact (hn cur 3 (0, 0) hb).1 rfl
  · rw [hxx]; exact h.xblk
  · intro j _
    exact World.cell?_of_block (w := w) hxx
  · intro g hg'
    rcases hob with ⟨h3, _⟩ | ⟨z, hz, h3⟩
    · rw [h3] at hg'
      have := hq.o g hg'
      exact ⟨this.1, by show (if _ then _ else _) = 0; rw [ho g (hq.sl.lt g hg')]; exact this.2.1, this.2.2⟩
    · rw [h3] at hg'
      cases hg'
      have hb := h.lt
      have hx := h.xlt
      exact ⟨Nat.le_trans hl hz, if_neg (by omega), by omega, by omega⟩
  · have hsz : w.heap.size ≤ w1.heap.size := Nat.le_trans hW.size hg.size
    refine ⟨(hg.os.trans hW.os).trans hS.os, (hg.tape.trans hW.tape).trans hS.tape, (hg.output.trans hW.output).trans hS.output, Nat.le_trans hS.size hsz, fun k hk e => ?_, fun k hk e hb hx => ?_, fun j hj => ?_⟩
    · show (if _ then _ else _) = 0
      rw [ho k (Nat.lt_of_lt_of_le hk hS.size)]; exact hS.zero k hk e
    · rw [hne k (Nat.lt_of_lt_of_le hk hS.size) (fun e' => by have := (hq.o k e').1; omega)]
      exact hS.blk k hk e hb hx
    · rw [World.cell?_of_block (w := w) hxx]; exact hS.xs j hj
end
end Go.Proofs.YtlpmmmmniojflaaGreatDoor
