/- A working out, walked: dirty. -/
import Derived.Test.YtlpmmmmniojflaaGreatDoorQ23
import Derived.Test.YtlpmmmmniojflaaGreatDoorSk
import Derived.Test.YtlpmmmmniojflaaGreatDoorRz
set_option linter.unusedVariables false
set_option linter.unusedSimpArgs false
namespace Go.Proofs.YtlpmmmmniojflaaGreatDoor
open Go.RowKit
def z146 : Array Value := #[.bool false, .bool false, .bool false, .bool false, .bool false, .bool false, .bool false, .bool false, .bool false, .bool false, .bool false, .bool false, .bool false, .bool false, .bool false, .bool false, .bool false, .bool false, .bool false, .bool false, .bool false, .bool false, .bool false, .bool false, .bool false, .bool false, .bool false, .bool false, .bool false, .bool false, .bool false, .bool false, .bool false, .bool false, .bool false, .bool false, .bool false, .bool false, .bool false, .bool false, .bool false, .bool false, .bool false, .bool false, .bool false, .bool false, .bool false, .bool false]
theorem z_marks : z146.toList = List.replicate 48 (.bool false) := by kernel_rfl
theorem info146 : (Tryz.prog.info? 146).map (·.size) = some 48 := by kernel_rfl
def MkA (w : World) (m : Nat) (mk : Nat → Bool) : Prop := ∃ cs, w.heap[m]? = some (.cells cs 146 (0, 0)) ∧ cs.size = 48 ∧ ∀ c, c < 48 → cs[c]? = some (.bool (mk c))
def mkU (mk : Nat → Bool) (c : Nat) (v : Bool) : Nat → Bool := fun i => if i = c then v else mk i
theorem MkA.new {w : World} {m : Nat} (h : w.heap[m]? = some (.cells z146 146 (0, 0))) : MkA w m (fun _ => false) := by
  refine ⟨_, h, ?_, fun c hc => ?_⟩
  · rw [← Array.length_toList, z_marks]; rfl
  · rw [← Array.getElem?_toList, z_marks, List.getElem?_replicate, if_pos hc]
theorem MkA.cell {w : World} {m : Nat} {mk : Nat → Bool} (h : MkA w m mk) {c : Nat} (hc : c < 48) : w.cell? ⟨m, c, none⟩ = some (.bool (mk c)) ∧ w.frozen? ⟨m, c, none⟩ = false := by
  obtain ⟨cs, h1, h2, h3⟩ := h
  exact ⟨by rw [cell_of_row w m c cs 146 (0, 0) h1]; exact h3 c hc, by simp [World.frozen?, h1]⟩
theorem MkA.kept {w w' : World} {m : Nat} {mk : Nat → Bool} (h : MkA w m mk) (hk : w'.heap[m]? = w.heap[m]?) : MkA w' m mk := by
  obtain ⟨cs, h1, h2⟩ := h
  exact ⟨cs, by rw [hk]; exact h1, h2⟩
theorem MkA.lt {w : World} {m : Nat} {mk : Nat → Bool} (h : MkA w m mk) : m < w.heap.size := by obtain ⟨cs, h1, _⟩ := h; exact (Array.getElem?_eq_some_iff.1 h1).1
theorem MkA.set {w : World} {m : Nat} {mk : Nat → Bool} (h : MkA w m mk) {c : Nat} (hc : c < 48) (v : Bool) : MkA (w.setCell ⟨m, c, none⟩ (.bool v)) m (mkU mk c v) := by
  obtain ⟨cs, h1, h2, h3⟩ := h
  refine ⟨_, rset h1, by simpa using h2, fun i hi => ?_⟩
  unfold mkU
  by_cases e : i = c
  · subst e
    rw [if_pos rfl, Array.getElem?_setIfInBounds_self_of_lt (by omega)]
  · rw [if_neg e, Array.getElem?_setIfInBounds_ne (fun h => e h.symm)]; exact h3 i hi
structure DSt (w : World) (q m : Nat) (mk : Nat → Bool) (wr : World) : Prop where
  b : Below w.heap.size w wr
  q0 : w.heap.size ≤ q
  m0 : w.heap.size ≤ m
  qm : q ≠ m
  mks : MkA wr m mk
  q : ∃ cs, wr.heap[q]? = some (.cells cs 146 (0, 0)) ∧ cs.size = 48
theorem DSt.below {w wr w' : World} {q m : Nat} {mk : Nat → Bool} (h : DSt w q m mk wr) (hb : Below wr.heap.size wr w') : DSt w q m mk w' := by
  obtain ⟨cs, h1, h2⟩ := h.q
  exact ⟨h.b.trans (hb.mono h.b.size), h.q0, h.m0, h.qm, h.mks.kept (hb.block _ h.mks.lt), ⟨cs, by rw [hb.block _ (Array.getElem?_eq_some_iff.1 h1).1]; exact h1, h2⟩⟩
theorem DSt.set {w wr : World} {q m : Nat} {mk : Nat → Bool} (h : DSt w q m mk wr) {c : Nat} (hc : c < 48) (v : Bool) : DSt w q m (mkU mk c v) (wr.setCell ⟨m, c, none⟩ (.bool v)) := by
  obtain ⟨cs, h1, h2⟩ := h.q
  exact ⟨h.b.setCell h.m0 _, h.q0, h.m0, h.qm, h.mks.set hc v, ⟨cs, rne h1 h.qm, h2⟩⟩
structure DInv (r : Rn) (mk : Nat → Bool) : Prop where
  up : ∀ c, c < 48 → mk c = true → ∃ n, dn r.fs r.last n c
  lo : ∀ c, c < 48 → stays r c = false → mk c = true
def mkN (mk : Nat → Bool) : Nat := ((List.range 48).filter (fun c => !mk c)).length
theorem filter_less {p q : Nat → Bool} (h : ∀ i, q i = true → p i = true) {c : Nat} (hp : p c = true) (hq : q c = false) : ∀ (l : List Nat), (l.filter q).length ≤ (l.filter p).length ∧ (c ∈ l → (l.filter q).length < (l.filter p).length)
  | [] => ⟨Nat.le_refl _, fun h => by cases h⟩
  | a :: l => by
    obtain ⟨i1, i2⟩ := filter_less h hp hq l
    rw [List.filter_cons, List.filter_cons]
    by_cases e : a = c
    · subst e
      rw [hp, hq]
      simp
      omega
    · have hm : c ∈ a :: l → c ∈ l := fun hh => by
        rcases List.mem_cons.1 hh with h | h
        · exact absurd h.symm e
        · exact h
      cases hqa : q a with
      | true =>
        rw [h a hqa]
        simp only [if_true, List.length_cons]
        exact ⟨by omega, fun hh => by have := i2 (hm hh); omega⟩
      | false =>
        cases hpa : p a with
        | true => simp; exact ⟨by omega, fun hh => by have := i2 (by rcases hh with h | h; exact absurd h.symm e; exact h); omega⟩
        | false => simp; exact ⟨i1, fun hh => i2 (by rcases hh with h | h; exact absurd h.symm e; exact h)⟩
theorem mkN_less {mk : Nat → Bool} {c : Nat} (hc : c < 48) (h : mk c = false) : mkN (mkU mk c true) < mkN mk := by
  unfold mkN
  refine (filter_less (p := fun c => !mk c) (q := fun i => !mkU mk c true i) (fun i hi => ?_) (c := c) (by simp [h]) (by simp [mkU]) (List.range 48)).2 (List.mem_range.2 hc)
  unfold mkU at hi
  by_cases e : i = c
  · subst e; simp at hi
  · rw [if_neg e] at hi; exact hi
theorem stays_iff (r : Rn) (c : Nat) : stays r c = false ↔ ¬ ((r.last c).f = r.fs c ∧ (r.last c).v ≠ cyc) := by
  unfold stays
  constructor
  · rintro h ⟨h1, h2⟩
    rw [decide_eq_true h1, eqB_ne h2] at h
    cases h
  · intro h
    cases hb : decide ((r.last c).f = r.fs c) && !(r.last c).v.eqB cyc with
    | false => rfl
    | true =>
      simp only [Bool.and_eq_true, decide_eq_true_eq, Bool.not_eq_true'] at hb
      exact absurd ⟨hb.1, fun e => by rw [e, eqB_self] at hb; cases hb.2⟩ h
theorem DInv.keeps {r : Rn} {mk : Nat → Bool} (h : DInv r mk) {c : Nat} (hc : c < 48) (hm : mk c = false) : stays r c = true := by
  cases hs : Go.Proofs.YtlpmmmmniojflaaGreatDoor.stays r c with
  | true => rfl
  | false => rw [h.lo c hc hs] at hm; cases hm
theorem DInv.done {r : Rn} {mk : Nat → Bool} (h : DInv r mk) (hr : ∀ c, c < 48 → stays r c = true → ∀ y ∈ (r.last c).rs, y.nd.c < 48) (hall : ∀ c, c < 48 → mk c = false → ∀ y ∈ (r.last c).rs, mk y.nd.c = false) : ∀ c, c < 48 → (mk c = true ↔ ∃ n, dn r.fs r.last n c) := by
  have key : ∀ n c, c < 48 → dn r.fs r.last n c → mk c = true := by
    intro n
    induction n with
    | zero => intro c hc hd; exact h.lo c hc ((stays_iff r c).2 hd)
    | succ n ih =>
      intro c hc hd
      rcases hd with hd | ⟨y, hy, hd⟩
      · exact ih c hc hd
      · cases hm : mk c with
        | true => rfl
        | false =>
          have := ih _ (hr c hc (h.keeps hc hm) y hy) hd
          rw [hall c hc hm y hy] at this
          exact this
  exact fun c hc => ⟨h.up c hc, fun ⟨n, hn⟩ => key n c hc hn⟩
theorem DInv.upd {r : Rn} {mk : Nat → Bool} (h : DInv r mk) {c : Nat} (hr : ∀ y ∈ (r.last c).rs, y.nd.c < 48) {y : Rd} (hy : y ∈ (r.last c).rs) (hm : mk y.nd.c = true) : DInv r (mkU mk c true) where
  up := fun i hi hmi => by
    unfold mkU at hmi
    by_cases e : i = c
    · subst e
      obtain ⟨n, hn⟩ := h.up _ (hr y hy) hm
      exact ⟨n + 1, .inr ⟨y, hy, hn⟩⟩
    · rw [if_neg e] at hmi; exact h.up i hi hmi
  lo := fun i hi hs => by
    unfold mkU
    by_cases e : i = c
    · rw [if_pos e]
    · rw [if_neg e]; exact h.lo i hi hs
theorem next_nums {i n : Nat} (h : i < n) (hn : n ≤ maxLen) : IntKind.i64.wrap ((i : Int) + 1) = (i : Int) + 1 ∧ wrap64 ((i : Int) + 1) = (i : Int) + 1 := by
  unfold maxLen at hn
  exact ⟨by rw [IntKind.wrap_i64]; omega, by unfold wrap64; omega⟩
structure DJ (r : Rn) (b : Nat) (w : World) (q m : Nat) (n l : Nat) (a : Act) (w' : World) : Prop where
  l0 : l = 0
  sz : a.tmps.size = 46
  p0 : a.tmps.toList.getD 0 undef = .pointer (some ⟨b, 0, none⟩)
  p2 : a.tmps.toList.getD 2 undef = .pointer (some ⟨q, 0, none⟩)
  p3 : a.tmps.toList.getD 3 undef = .pointer (some ⟨m, 0, none⟩)
  df : a.defers = []
  ex : ∃ mk, n = mkN mk ∧ DSt w q m mk w' ∧ DInv r mk
theorem wp_scope_at3 {P : Program} {a : Act} {w : World} {Q : Exit → Act → World → Prop} {pre1 pre2 rest : Code} (l0 n0 : Nat) (J : Nat → Nat → Act → World → Prop) (hpre : pre1.wp P (fun e a w => e = .normal ∧ pre2.wp P (fun e a w => e = .normal ∧ J n0 l0 a w) a w) a w) (hf1 : ∀ l, findLabel pre1 l = none) (hf2 : ∀ l, findLabel pre2 l = none)
    (pass0 : ∀ n a w, J n l0 a w → rest.wp P (jumpsQ (fun l' a' w' => ∃ n', n' < n ∧ J n' l' a' w') Q) a w)
    (only : ∀ n l a w, J n l a w → l = l0) : (Code.scope (pre1.seq (pre2.seq ((Code.label l0).seq rest)))).wp P Q a w := by
  refine wp_scope_ghost J ?_ ?_
  · apply wp_seq
    refine wp_more hpre fun e a w hq => ?_
    obtain ⟨rfl, hJ⟩ := hq
    show (pre2.seq ((Code.label l0).seq rest)).wp P _ a w
    apply wp_seq
    refine wp_more hJ fun e a w hq => ?_
    obtain ⟨rfl, hJ⟩ := hq
    show ((Code.label l0).seq rest).wp P _ a w
    apply wp_seq
    apply wp_label
    refine wp_more (pass0 n0 a w hJ) fun e a w hq => ?_
    cases e with
    | goto l => obtain ⟨n', _, h⟩ := hq; exact ⟨n', h⟩
    | _ => exact hq
  · intro n l a w hJ
    have hl := only n l a w hJ
    subst hl
    refine ⟨Code.seq .skip rest, by simp [findLabel, hf1, hf2], ?_⟩
    apply wp_seq
    apply wp_skip
    exact pass0 n a w hJ
set_option maxRecDepth 100000 in
set_option maxHeartbeats 4000000 in
theorem dirty_w (w : World) (own : Nat → Nat) (b x : Nat) (r : Rn) (h : Hid (RR w own b x r)) (hr : Hid (∀ c, c < 48 → stays r c = true → ∀ y ∈ (r.last c).rs, y.nd.c < 48)) :
    Calls Tryz.prog 141 #[.pointer (some ⟨b, 0, none⟩)] w fun e w' => ∃ M : Array Value, e = .returned (.agg M) ∧ Hid (M.size = 48 ∧ Below w.heap.size w w' ∧ ∃ mk : Nat → Bool, (∀ c, c < 48 → M[c]? = some (.bool (mk c))) ∧ ∀ c, c < 48 → (mk c = true ↔ ∃ n, dn r.fs r.last n c)) := by
  have HD0 : Hid (DSt w w.heap.size (w.heap.size + 1) (fun _ => false) ((w.alloc (.cells z146 146)).alloc (.cells z146 146))) := by
    have hn : ((w.alloc (.cells z146 146)).alloc (.cells z146 146)).heap[w.heap.size + 1]? = some (.cells z146 146 (0, 0)) := by
      have := rnew (w.alloc (.cells z146 146)) z146 146
      rw [show (w.alloc (.cells z146 146)).heap.size = w.heap.size + 1 by simp] at this
      exact this
    refine ⟨bl2 w _ _, Nat.le_refl _, Nat.le_succ _, by omega, MkA.new hn, ⟨_, rold (rnew w _ _) _, ?_⟩⟩
    rw [← Array.length_toList, z_marks]; rfl
  have HM0 : Hid (∀ c, c < 48 → (if c < 48 then !stays r c else false) = !stays r c) := fun c hc => if_pos hc
  go_enter Tryz.func141, Tryz.ntmps141
  go_wp2_with fail
  refine wp_scope_at3 0 (mkN fun c => !stays r c) (DJ r b w w.heap.size (w.heap.size + 1)) ?_ (fun l => rfl) (fun l => rfl) ?_ (fun n l a w hJ => hJ.l0)
  · go_wp2_with fail
    go_loopw [8] (fun s wr => ∃ j : Nat, s = .int .i64 j ∧ Hid (j ≤ 48) ∧ Hid (DSt w w.heap.size (w.heap.size + 1) (fun c => if c < j then !stays r c else false) wr)) (fun s _ => (48 - intOf s).toNat)
    case atStart => exact ⟨0, rfl, Nat.zero_le _, HD0⟩
    case round =>
      clear HD0
      obtain ⟨j, rfl, HJ, HD⟩ := hrel
      by_cases hj : j < 48
      · have hji : (j : Int) < 48 := by omega
        have hj0 : 0 ≤ (j : Int) := by omega
        have w1' : IntKind.i64.wrap ((j : Int) + 1) = (j : Int) + 1 := by rw [IntKind.wrap_i64]; omega
        have w2' : wrap64 ((j : Int) + 1) = (j : Int) + 1 := by unfold wrap64; omega
        have HJ' : Hid (j < 48) := hj
        have HRR : Hid (RR wr own b x r) := (h.out.below (own' := own) HD.out.b (fun _ _ => rfl)).1
        clear HJ
        go_wp2_with fail
        refine (stays_w wr own b x r j hj HRR).mono ?_
        rintro e w2 ⟨rfl, hb2⟩
        have HD2 : Hid (DSt w w.heap.size (w.heap.size + 1) (fun c => if c < j then !stays r c else false) w2) := HD.out.below hb2
        obtain ⟨p1, p2⟩ := HD2.out.mks.cell hj
        clear hb2 hj
        go_wp2_with fail
        go_roundw
        case rel =>
          refine ⟨j + 1, by go_num, HJ'.out, ?_⟩
          have := HD2.out.set HJ'.out (!stays r j)
          have e : mkU (fun c => if c < j then !stays r c else false) j (!stays r j) = (fun c => if c < j + 1 then !stays r c else false) := by
            funext i
            unfold mkU
            by_cases h1 : i = j
            · subst h1; rw [if_pos rfl, if_pos (by omega)]
            · rw [if_neg h1]
              show (if i < j then !stays r i else false) = _
              by_cases h2 : i < j
              · rw [if_pos h2, if_pos (by omega)]
              · rw [if_neg h2, if_neg (by omega)]
          rw [e] at this
          exact this
        case measure => simp [intOf]; omega
      · have hge : ¬ (j : Int) < 48 := by omega
        have hj48 : j = 48 := by have := HJ.out; omega
        rw [hj48] at HD
        have HD1 : Hid (DSt w w.heap.size (w.heap.size + 1) (fun c => !stays r c) wr) := by
          have hd := HD.out
          obtain ⟨cs, k1, k2, k3⟩ := hd.mks
          exact ⟨hd.b, hd.q0, hd.m0, hd.qm, ⟨cs, k1, k2, fun c hc => by rw [k3 c hc]; show some (Value.bool (if c < 48 then !stays r c else false)) = _; rw [if_pos hc]⟩, hd.q⟩
        clear HD hj hj48 HJ
        go_wp2_with fail
        exact ⟨rfl, rfl, rfl, rfl, rfl, rfl, ⟨_, rfl, HD1.out, { up := fun c hc hm => ⟨0, (stays_iff r c).1 (by simpa using hm)⟩, lo := fun c hc hs => by show (!stays r c) = true; rw [hs]; rfl }⟩⟩
  · intro n a w1 hJ
    obtain ⟨u, hu0, hu2, hu3, ha⟩ : ∃ u : Nat → Value, u 0 = .pointer (some ⟨b, 0, none⟩) ∧ u 2 = .pointer (some ⟨w.heap.size, 0, none⟩) ∧ u 3 = .pointer (some ⟨w.heap.size + 1, 0, none⟩) ∧ a = ⟨#[u 0, u 1, u 2, u 3, u 4, u 5, u 6, u 7, u 8, u 9, u 10, u 11, u 12, u 13, u 14, u 15, u 16, u 17, u 18, u 19, u 20, u 21, u 22, u 23, u 24, u 25, u 26, u 27, u 28, u 29, u 30, u 31, u 32, u 33, u 34, u 35, u 36, u 37, u 38, u 39, u 40, u 41, u 42, u 43, u 44, u 45], []⟩ :=
      ⟨fun i => a.tmps.toList.getD i undef, hJ.p0, hJ.p2, hJ.p3, tmps_of hJ.sz hJ.df⟩
    obtain ⟨mk, rfl, D1, I1⟩ := hJ.ex
    have HD1 : Hid (DSt w w.heap.size (w.heap.size + 1) mk w1) := D1
    have HI1 : Hid (DInv r mk) := I1
    rw [ha, hu0, hu2, hu3]
    clear ha hu0 hu2 hu3 hJ D1 I1 HD0 HM0
    generalize w.heap.size + 1 = m at *
    obtain ⟨q, hq⟩ : ∃ q, w.heap.size = q := ⟨_, rfl⟩
    have HQ : Hid (w.heap.size = q) := hq
    rw [hq] at HD1 ⊢
    clear hq
    go_wp2_with fail
    go_loopw [18] (fun s wr => ∃ j : Nat, s = .int .i64 j ∧ Hid (j ≤ 48) ∧ Hid (DSt w q m mk wr) ∧ Hid (∀ c, c < j → mk c = false → ∀ y ∈ (r.last c).rs, mk y.nd.c = false)) (fun s _ => (48 - intOf s).toNat)
    case atStart => exact ⟨0, rfl, Nat.zero_le _, HD1, fun c hc => absurd hc (by omega)⟩
    case round =>
      clear HD1
      obtain ⟨j, rfl, HJ, HD, HA⟩ := hrel
      by_cases hj : j < 48
      · have hji : (j : Int) < 48 := by omega
        have hj0 : 0 ≤ (j : Int) := by omega
        have w1' : IntKind.i64.wrap ((j : Int) + 1) = (j : Int) + 1 := by rw [IntKind.wrap_i64]; omega
        have w2' : wrap64 ((j : Int) + 1) = (j : Int) + 1 := by unfold wrap64; omega
        have HJ' : Hid (j < 48) := hj
        obtain ⟨p1, p2⟩ := HD.out.mks.cell hj
        cases hmj : mk j with
        | true =>
          rw [hmj] at p1
          clear hj HJ
          go_wp2_with fail
          go_roundw
          case rel =>
            refine ⟨j + 1, by go_num, HJ'.out, HD, fun c hc hm => ?_⟩
            by_cases e : c = j
            · rw [e, hmj] at hm; cases hm
            · exact HA.out c (by omega) hm
          case measure => simp [intOf]; omega
        | false =>
          rw [hmj] at p1
          have hRR := (h.out.below (own' := own) HD.out.b (fun _ _ => rfl)).1
          obtain ⟨rv, k1, k2, k3⟩ := (hRR.last j hj).rs
          obtain ⟨ao, cp, hrv⟩ := Slc.len k2
          rw [hrv] at k1 k2
          have HRD : Hid (RdSl wr (.slice ao (r.last j).rs.length cp) (r.last j).rs) := k2
          have HMX : Hid ((r.last j).rs.length ≤ maxLen) := Slc.max k2
          have HMJ : Hid (mk j = false) := hmj
          clear hj HJ hRR k2 k3 hrv hmj
          go_wp2_with fail
          go_loopw [32] (fun s wx => ∃ i : Nat, s = .int .i64 i ∧ Hid (i ≤ (r.last j).rs.length) ∧ Hid (DSt w q m mk wx ∧ Below wr.heap.size wr wx) ∧ Hid (∀ y ∈ (r.last j).rs.take i, mk y.nd.c = false)) (fun s _ => ((r.last j).rs.length - intOf s).toNat)
          case atStart => exact ⟨0, rfl, Nat.zero_le _, ⟨HD.out, Below.refl _ _⟩, fun y hy => by simp at hy⟩
          case round =>
            obtain ⟨i, rfl, HI, HDB, HT⟩ := hrel
            by_cases hi : i < (r.last j).rs.length
            · obtain ⟨y, hy⟩ : ∃ y, (r.last j).rs[i]? = some y := ⟨_, List.getElem?_eq_getElem hi⟩
              have hyc : y.nd.c < 48 := hr.out j HJ'.out (HI1.out.keeps HJ'.out HMJ.out) y (List.mem_of_getElem? hy)
              have hrd : RdSl _ (.slice ao (r.last j).rs.length cp) (r.last j).rs := Slc.kept HRD.out fun g hg => HDB.out.2.block g (HRD.out.lt g hg)
              obtain ⟨g, o, rfl, hcp, r0, r1, r2, r3, r4⟩ := hrd.read hy
              have hii : (i : Int) < ((r.last j).rs.length : Int) := by omega
              have hni : 0 ≤ (i : Int) := by omega
              obtain ⟨n1, n2⟩ := next_nums hi HMX.out
              obtain ⟨z1, z2⟩ := HDB.out.1.mks.cell hyc
              have hyi : (y.nd.c : Int) < 48 := by omega
              have hy0 : 0 ≤ (y.nd.c : Int) := by omega
              have z1' := al z1
              have z2' := afz z2 HDB.out.1.mks.lt
              obtain ⟨y1, y2⟩ := HDB.out.1.mks.cell HJ'.out
              have y1' := al y1
              have y2' := afz y2 HDB.out.1.mks.lt
              have HY : Hid ((r.last j).rs[i]? = some y) := hy
              have HII : Hid (i < (r.last j).rs.length) := hi
              have HW0 : Hid (DSt w q m mk (wr.alloc (.cells #[.int .i64 y.nd.c, .bool y.nd.a, .int .i64 y.w.k, .int .i64 y.w.n, .string y.w.s] 274)) ∧ Below _ _ (wr.alloc (.cells #[.int .i64 y.nd.c, .bool y.nd.a, .int .i64 y.w.k, .int .i64 y.w.n, .string y.w.s] 274))) := ⟨HDB.out.1.below (bl1 _ _), HDB.out.2.alloc HDB.out.2.size _⟩
              clear HI hrd hi hy HDB
              cases hmy : mk y.nd.c with
              | true =>
                rw [hmy] at z1 z1'
                have HMY : Hid (mk y.nd.c = true) := hmy
                clear hmy
                go_wp2_with fail
                go_step3
                exact ⟨mkN (mkU mk j true), mkN_less HJ'.out HMJ.out, rfl, rfl, rfl, HQ.out ▸ rfl, rfl, rfl, ⟨_, rfl, HW0.out.1.set HJ'.out true, HI1.out.upd (hr.out j HJ'.out (HI1.out.keeps HJ'.out HMJ.out)) (List.mem_of_getElem? HY.out) HMY.out⟩⟩
              | false =>
                rw [hmy] at z1 z1'
                go_wp2_with fail
                go_roundw
                case rel =>
                  refine ⟨i + 1, by go_num, HII.out, HW0, fun y' hy' => ?_⟩
                  rw [List.take_add_one, HY.out, List.mem_append] at hy'
                  rcases hy' with h1 | h1
                  · exact HT.out y' h1
                  · simp at h1; rw [h1]; exact hmy
                case measure => have := HII.out; simp [intOf]; omega
            · have hge : ¬ (i : Int) < ((r.last j).rs.length : Int) := by omega
              have HNX : Hid (∀ c, c < j + 1 → mk c = false → ∀ y ∈ (r.last c).rs, mk y.nd.c = false) := by
                intro c hc hm y hy
                by_cases e : c = j
                · subst e
                  refine HT.out y ?_
                  rw [List.take_of_length_le (by omega)]; exact hy
                · exact HA.out c (by omega) hm y hy
              have HDD : Hid (DSt w q m mk wr) := HDB.out.1
              clear hi HI HDB HT
              go_wp2_with fail
              go_roundw
              case rel => exact ⟨j + 1, by go_num, HJ'.out, HDD, HNX⟩
              case measure => simp [intOf]; omega
      · have hge : ¬ (j : Int) < 48 := by omega
        have hj48 : j = 48 := by have := HJ.out; omega
        rw [hj48] at HA
        obtain ⟨cs, k1, k2, k3⟩ := HD.out.mks
        obtain ⟨z, q1, q2⟩ := HD.out.q
        have hone : cs.all (·.oneCell') = true := by
          refine Array.all_eq_true_iff_forall_mem.2 fun v hv => ?_
          obtain ⟨i, hi⟩ := Array.getElem?_of_mem hv
          have hl := (Array.getElem?_eq_some_iff.1 hi).1
          rw [k3 i (by omega)] at hi
          cases hi; rfl
        have h3 : Hid ((loadVar 146 ⟨m, 0, none⟩).run Tryz.prog wr = .ok (.agg cs) wr) := run_loadVar_row _ _ 146 146 cs (0, 0) _ k1 Tryz.underlying146 rfl (by rw [k2]; exact info146)
        have h4 : Hid ((storeVar 146 ⟨q, 0, none⟩ (.agg cs)).run Tryz.prog wr = .ok () (wr.setRow q cs)) := run_storeVar_row _ _ 146 146 _ cs q1 (by rw [k2]; exact info146) (by rw [q2, k2]) hone
        have h5 : Hid ((loadVar 146 ⟨q, 0, none⟩).run Tryz.prog (wr.setRow q cs) = .ok (.agg cs) (wr.setRow q cs)) := run_loadVar_row _ _ 146 146 cs (0, 0) _ (setRow_heap _ _ _ _ _ _ q1) Tryz.underlying146 rfl (by rw [k2]; exact info146)
        have HFIN : Hid (cs.size = 48 ∧ Below w.heap.size w (wr.setRow q cs) ∧ ∃ mk : Nat → Bool, (∀ c, c < 48 → cs[c]? = some (.bool (mk c))) ∧ ∀ c, c < 48 → (mk c = true ↔ ∃ n, dn r.fs r.last n c)) :=
          ⟨k2, below_setRow HD.out.b HD.out.q0 _, mk, k3, HI1.out.done hr.out HA.out⟩
        clear k1 k2 k3 q1 q2 hone HA HD hj hj48 HJ
        go_wp2_with (first
          | (refine wpList_load_run (P := Tryz.prog) ?_ 146 (.tmp 3) ?_ ⟨m, 0, none⟩ ?_ (.agg cs) ?_ ?_; (rfl); (rfl); (rfl); (exact h3.out))
          | (refine wpList_store_run (P := Tryz.prog) ?_ 146 (.tmp 2) (.tmp 45) ?_ ⟨q, 0, none⟩ (.agg cs) ?_ ?_ (wr.setRow q cs) ?_ ?_; (rfl); (rfl); (rfl); (rfl); (exact h4.out)))
        rw [jumps_ret]
        refine bodyPost_ret (results_cell1 rfl _ _ _ ⟨q, 0, none⟩ _ _ rfl h5.out) rfl ?_
        exact ⟨cs, rfl, HFIN⟩
end Go.Proofs.YtlpmmmmniojflaaGreatDoor
