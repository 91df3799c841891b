/- Texts put together. -/
import Derived.Test.YtlpmmmmniojflaaGreatDoorQ09
import Derived.Deep.RegionWith
import Derived.Test.YtlpmmmmniojflaaGreatDoorQ02
import Derived.RegionTactic
import Derived.BigRegion
import Derived.Deep.LoopGhost
/- 'isRange', 'checkCells': which cells a formula may name. -/
namespace Go.Proofs.YtlpmmmmniojflaaGreatDoor
open Go.RowKit
def TL (w : World) (v : Value) (ts : List Tk) : Prop :=
  (v = .slice none 0 0 ∧ ts = []) ∨ ∃ g cap, v = .slice (some ⟨g, 0, none⟩) ts.length cap ∧ ts.length ≤ cap ∧ ∀ (j : Nat) (t : Tk), ts[j]? = some t →
      w.cell? ⟨g, j * 3, none⟩ = some (.int .i64 t.k) ∧ w.cell? ⟨g, j * 3 + 1, none⟩ = some (.string ⟨t.x.toArray⟩) ∧ w.cell? ⟨g, j * 3 + 2, none⟩ = some (.int .i64 t.p)
def isR (l : List Tk) : Bool := decide (2 < l.length) && decide (kindAt l 1 = 15)
def badA (x y : Int × Bool) : Bool := decide (arI x y = 0) || decide (12 < arI x y)
def txtAt (ts : List Tk) (i : Nat) : List UInt8 := match ts[i]? with | some t => t.x | none => []
def chk : Nat → List Tk → Option Nat
  | 0, _ => none
  | _ + 1, [] => none
  | n + 1, t :: r =>
    if t.k ≠ 5 then chk n r
    else if isR (t :: r) = true then if badA (cn t.x) (cn (txtAt (t :: r) 2)) = true then some t.p else chk n (r.drop 2)
    else if (cn t.x).2 = true then chk n r else some t.p
set_option maxHeartbeats 1000000 in
theorem isRange_any (g off m c : Nat) (q : Int) (w : World) (hm : m ≤ 1000000) (hc : 2 < m → w.cell? ⟨g, off + 3, none⟩ = some (.int .i64 q)) :
    Calls Tryz.prog 124 #[.slice (some ⟨g, off, none⟩) m c] w fun e w' => e = .returned (.bool (decide (2 < m) && decide (q = 15))) ∧ w' = w := by
  by_cases h2 : 2 < m
  · have hc1 := hc h2
    have h2i : (2 : Int) < (m : Int) := by omega
    clear hc
    by_cases hq : q = 15
    · have b : (q == 15) = true := by simpa using hq
      have HR : Hid ((decide (2 < m) && decide (q = 15)) = true) := by unfold Hid; simp [h2, hq]
      generalize (decide (2 < m) && decide (q = 15)) = rr at *
      clear hq
      go_enter Tryz.func124, Tryz.ntmps124
      go_wp2
      go_ret
      rw [HR.out]
      exact ⟨rfl, rfl⟩
    · have b : (q == 15) = false := by simpa using hq
      have HR : Hid ((decide (2 < m) && decide (q = 15)) = false) := by unfold Hid; simp [hq]
      generalize (decide (2 < m) && decide (q = 15)) = rr at *
      clear hq
      go_enter Tryz.func124, Tryz.ntmps124
      go_wp2
      go_ret
      rw [HR.out]
      exact ⟨rfl, rfl⟩
  · have h2i : ¬ (2 : Int) < (m : Int) := by omega
    have HR : Hid ((decide (2 < m) && decide (q = 15)) = false) := by unfold Hid; simp [h2]
    generalize (decide (2 < m) && decide (q = 15)) = rr at *
    clear hc
    go_enter Tryz.func124, Tryz.ntmps124
    go_wp2
    go_ret
    rw [HR.out]
    exact ⟨rfl, rfl⟩
theorem drop_tk {ts : List Tk} {k : Nat} {t : Tk} (h : ts[k]? = some t) : ts.drop k = t :: ts.drop (k + 1) := by
  obtain ⟨hl, rfl⟩ := List.getElem?_eq_some_iff.1 h
  exact List.drop_eq_getElem_cons hl
theorem kindAt_drop (ts : List Tk) (k j : Nat) : kindAt (ts.drop k) j = kindAt ts (k + j) := by unfold kindAt; rw [List.getElem?_drop]
theorem txtAt_drop (ts : List Tk) (k j : Nat) : txtAt (ts.drop k) j = txtAt ts (k + j) := by unfold txtAt; rw [List.getElem?_drop]
theorem chk_other {ts : List Tk} {k f : Nat} {t : Tk} (ht : ts[k]? = some t) (h : t.k ≠ 5) : chk (f + 1) (ts.drop k) = chk f (ts.drop (k + 1)) := by
  rw [drop_tk ht, chk, if_pos h]
theorem chk_lone {ts : List Tk} {k f : Nat} {t : Tk} (ht : ts[k]? = some t) (h : t.k = 5) (hr : (decide (2 < ts.length - k) && decide (kindAt ts (k + 1) = 15)) = false) :
    chk (f + 1) (ts.drop k) = if (cn t.x).2 = true then chk f (ts.drop (k + 1)) else some t.p := by
  have e : isR (ts.drop k) = false := by unfold isR; rw [kindAt_drop, List.length_drop]; exact hr
  rw [drop_tk ht] at e ⊢
  rw [chk, if_neg (by simp [h]), e, if_neg (by simp)]
theorem chk_range {ts : List Tk} {k f : Nat} {t : Tk} (ht : ts[k]? = some t) (h : t.k = 5) (hr : (decide (2 < ts.length - k) && decide (kindAt ts (k + 1) = 15)) = true) :
    chk (f + 1) (ts.drop k) = if badA (cn t.x) (cn (txtAt ts (k + 2))) = true then some t.p else chk f (ts.drop (k + 3)) := by
  have e : isR (ts.drop k) = true := by unfold isR; rw [kindAt_drop, List.length_drop]; exact hr
  have e2 := txtAt_drop ts k 2
  rw [drop_tk ht] at e e2 ⊢
  rw [chk, if_neg (by simp [h]), e, if_pos rfl, e2, List.drop_drop]
set_option maxHeartbeats 2000000 in
theorem check_any (w : World) (v : Value) (ts : List Tk) (h : TL w v ts) (hs : ts.length ≤ 1000000) :
    Calls Tryz.prog 95 #[v] w fun e w' => Below w.heap.size w w' ∧ ((chk ts.length ts = none ∧ e = .returned (.tuple #[.int .i64 0, .bool true])) ∨ (∃ p : Nat, chk ts.length ts = some p ∧ e = .returned (.tuple #[.int .i64 p, .bool false]))) := by
  rcases h with ⟨rfl, rfl⟩ | ⟨g, cap, rfl, hcap, hc⟩
  · go_enter Tryz.func95, Tryz.ntmps95
    go_wp2_with fail
    refine wp_loop_rounds 1 ?_
    rw [rounds_succ]
    go_wp2_with fail
    go_ret2
    exact ⟨Below.refl _ _, Or.inl ⟨rfl, rfl⟩⟩
  have HC : Hid _ := hc
  clear hc
  go_enter Tryz.func95, Tryz.ntmps95
  go_wp2_with fail
  go_loopw [4] (fun x wr => ∃ (k f : Nat), k ≤ ts.length ∧ x = .int .i64 k ∧ Hid (Below w.heap.size w wr) ∧ ts.length - k ≤ f ∧ Hid (chk ts.length ts = chk f (ts.drop k))) (fun x _ => ts.length - (intOf x).toNat)
  case atStart => exact ⟨0, ts.length, by omega, rfl, Below.refl _ _, by omega, rfl⟩
  case round =>
    obtain ⟨k, f, hk, rfl, hwr, hf, hck⟩ := hrel
    have hcells : Hid (∀ (j : Nat) (t : Tk), ts[j]? = some t →
      wr.cell? ⟨g, j * 3, none⟩ = some (.int .i64 t.k) ∧ wr.cell? ⟨g, j * 3 + 1, none⟩ = some (.string ⟨t.x.toArray⟩) ∧ wr.cell? ⟨g, j * 3 + 2, none⟩ = some (.int .i64 t.p)) := by
      intro j t hj
      obtain ⟨a0, a1, a2⟩ := HC.out j t hj
      have hlt := World.block_lt_of_cell? w _ a0
      exact ⟨by rw [hwr.out.cell (p := ⟨g, j * 3, none⟩) hlt]; exact a0, by rw [hwr.out.cell (p := ⟨g, j * 3 + 1, none⟩) hlt]; exact a1, by rw [hwr.out.cell (p := ⟨g, j * 3 + 2, none⟩) hlt]; exact a2⟩
    by_cases hlt : k < ts.length
    · obtain ⟨f', rfl⟩ : ∃ f', f = f' + 1 := ⟨f - 1, by omega⟩
      obtain ⟨t, ht⟩ : ∃ t, ts[k]? = some t := ⟨_, List.getElem?_eq_getElem hlt⟩
      obtain ⟨c0, c1, c2⟩ := hcells.out k t ht
      have HT : Hid _ := ht
      have hlti : (k : Int) < (ts.length : Int) := by omega
      clear ht
      by_cases h5 : t.k = 5
      · have b5 : (t.k != 5) = false := by simpa using h5
        have H5 : Hid _ := h5
        clear h5
        have hcq : 2 < ts.length - k → wr.cell? ⟨g, k * 3 + 3, none⟩ = some (.int .i64 (kindAt ts (k + 1))) := fun h => by
          obtain ⟨t1, ht1⟩ : ∃ t1, ts[k + 1]? = some t1 := ⟨_, List.getElem?_eq_getElem (by omega)⟩
          have := (hcells.out (k + 1) t1 ht1).1
          have e : (k + 1) * 3 = k * 3 + 3 := by omega
          rw [e] at this
          rw [this]
          unfold kindAt
          rw [ht1]
        have HQ : Hid _ := hcq
        clear hcq
        go_wp2_with fail
        refine (isRange_any g (k * 3) (ts.length - k) (cap - k) (kindAt ts (k + 1)) _ (by omega) HQ.out).mono ?_
        rintro e w1 ⟨rfl, rfl⟩
        cases hr : (decide (2 < ts.length - k) && decide (kindAt ts (k + 1) = 15))
        · have HR : Hid _ := chk_lone (f := f') HT.out H5.out hr
          clear hr
          go_wp2_with fail
          refine (number_cell _ _).mono ?_
          rintro e w2 ⟨rfl, m, rfl⟩
          have ex : (⟨t.x.toArray⟩ : ByteArray).data.toList = t.x := rfl
          rw [ex]
          clear ex
          cases hb : (cn t.x).2
          · have HB : Hid _ := hb
            clear hb
            go_wp2_with fail
            go_ret2
            refine ⟨below_drewN hwr.out m, Or.inr ⟨t.p, ?_, rfl⟩⟩
            rw [hck.out, HR.out, HB.out, if_neg (by simp)]
          · have HB : Hid _ := hb
            clear hb
            go_wp2_with fail
            go_roundw
            case rel =>
              refine ⟨k + 1, f', by omega, by go_num, below_drewN hwr.out m, by omega, ?_⟩
              · unfold Hid; rw [hck.out, HR.out, HB.out, if_pos rfl]
            case measure => simp [intOf]; omega
        · have HR : Hid _ := chk_range (f := f') HT.out H5.out hr
          have hl2 : k + 2 < ts.length := by simp at hr; omega
          have hl2i : (k : Int) + 2 < (ts.length : Int) := by omega
          have hl2j : 0 ≤ (k : Int) + 2 := by omega
          have hw2 : IntKind.i64.wrap ((k : Int) + 2) = (k : Int) + 2 := by rw [IntKind.wrap_i64]; omega
          have htn : ((k : Int) + 2).toNat = k + 2 := by omega
          have hw3 : wrap64 ((k : Int) + 2) = (k : Int) + 2 := by unfold wrap64; omega
          obtain ⟨t2, ht2⟩ : ∃ t2, ts[k + 2]? = some t2 := ⟨_, List.getElem?_eq_getElem hl2⟩
          have d1 := (hcells.out (k + 2) t2 ht2).2.1
          have HX : Hid (txtAt ts (k + 2) = t2.x) := by unfold Hid txtAt; rw [ht2]
          clear hr ht2
          go_wp2_with fail
          go_region_with (go_at_call 125; refine (area_any _ _ _).mono ?_; rintro e w2 ⟨rfl, hb2⟩)
          all_goals
            have HB2 : Hid (Below w.heap.size w w2) := hwr.out.drew.trans (hb2.mono hwr.out.size)
            have c2' : w2.cell? ⟨g, k * 3 + 2, none⟩ = some (.int .i64 t.p) := by
              obtain ⟨a0, a1, a2⟩ := HC.out k t HT.out
              rw [HB2.out.cell (p := ⟨g, k * 3 + 2, none⟩) (World.block_lt_of_cell? w _ a2)]; exact a2
            clear hb2
            obtain ⟨a, ha⟩ : ∃ a, arI (cn t.x) (cn t2.x) = a := ⟨_, rfl⟩
            have HA : Hid (badA (cn t.x) (cn (txtAt ts (k + 2))) = (decide (a = 0) || decide (12 < a))) := by unfold Hid badA; rw [HX.out, ha]
            rw [ha]
            clear ha
            by_cases a0 : a = 0
            · have ab : (a == 0) = true := by simpa using a0
              have HB : Hid (badA (cn t.x) (cn (txtAt ts (k + 2))) = true) := by unfold Hid; rw [HA.out]; simp [a0]
              clear a0
              go_wp2_with fail
              go_ret2
              refine ⟨HB2.out, Or.inr ⟨t.p, ?_, rfl⟩⟩
              rw [hck.out, HR.out, HB.out, if_pos rfl]
            · have ab : (a == 0) = false := by simpa using a0
              by_cases a12 : 12 < a
              · have HB : Hid (badA (cn t.x) (cn (txtAt ts (k + 2))) = true) := by unfold Hid; rw [HA.out]; simp [a12]
                clear a0
                go_wp2_with fail
                go_ret2
                refine ⟨HB2.out, Or.inr ⟨t.p, ?_, rfl⟩⟩
                rw [hck.out, HR.out, HB.out, if_pos rfl]
              · have HB : Hid (badA (cn t.x) (cn (txtAt ts (k + 2))) = false) := by unfold Hid; rw [HA.out]; simp [a0, a12]
                clear a0
                go_wp2_with fail
                go_roundw
                case rel =>
                  refine ⟨k + 3, f', by omega, by go_num, HB2.out, by omega, ?_⟩
                  · unfold Hid; rw [hck.out, HR.out, HB.out, if_neg (by simp)]
                case measure => simp [intOf]; omega
      · have b5 : (t.k != 5) = true := by simpa using h5
        have H5 : Hid _ := h5
        clear h5
        go_wp2_with fail
        go_roundw
        case rel => exact ⟨k + 1, f', by omega, by go_num, hwr, by omega, by unfold Hid; rw [hck.out, chk_other HT.out H5.out]⟩
        case measure => simp [intOf]; omega
    · have e : k = ts.length := by omega
      have hlti : ¬ (k : Int) < (ts.length : Int) := by omega
      go_wp2_with fail
      go_ret2
      refine ⟨hwr.out, Or.inl ⟨?_, rfl⟩⟩
      rw [hck.out, e, List.drop_length]
      cases f <;> rfl
end Go.Proofs.YtlpmmmmniojflaaGreatDoor
/- 'grammar.Number': whatever the tokens are, an answer of 64 bits. -/
namespace Go.Proofs.YtlpmmmmniojflaaGreatDoor
open Go.RowKit
def SynVar (w : World) : Prop := ∃ tp p, w.var? Tryz.prog "strconv.ErrSyntax" = some #[.iface tp p]
end Go.Proofs.YtlpmmmmniojflaaGreatDoor
/- The program's parser: 'take' at written-out kinds, 'negations', 'place'. -/
namespace Go.Proofs.YtlpmmmmniojflaaGreatDoor
open Go.RowKit
theorem PW.size {w : World} {B pb : Nat} {v : Value} {ts : List Tk} {i d : Nat} (h : PW w B pb v ts i d) : B ≤ w.heap.size := Nat.le_of_lt (Nat.lt_of_le_of_lt h.low h.lt)
theorem take1 (q : Int) (hq : q ≠ 0) (w : World) (B pb : Nat) (v : Value) (ts : List Tk) (i d : Nat) (h : Hid (PW w B pb v ts i d)) :
    Calls Tryz.prog 123 #[.pointer (some ⟨pb, 0, none⟩), .slice (some ⟨w.heap.size, 0, none⟩) 1 1] (w.alloc (.cells #[.int .i64 q] 140)) fun e w' => e = .returned (.bool (tkB [q] (kindAt ts i))) ∧ Below B w w' ∧
      PW w' B pb v ts (tkI [q] (kindAt ts i) i) d := by
  refine (take_any (w.alloc (.cells #[.int .i64 q] 140)) B pb v ts i d w.heap.size [q] (h.out.alloc _) ?_ (by simp) (by unfold Hid; simpa using fun e => hq e.symm)).mono ?_
  · intro j u hj
    match j, hj with
    | 0, hj => simp at hj; subst hj; simp
    | j + 1, hj => simp at hj
  · rintro e w' ⟨rfl, hb, hp⟩
    exact ⟨rfl, ((Below.refl _ _).alloc h.out.size _).trans hb, hp⟩
theorem take2 (q r : Int) (hq : q ≠ 0) (hr : r ≠ 0) (w : World) (B pb : Nat) (v : Value) (ts : List Tk) (i d : Nat) (h : Hid (PW w B pb v ts i d)) :
    Calls Tryz.prog 123 #[.pointer (some ⟨pb, 0, none⟩), .slice (some ⟨w.heap.size, 0, none⟩) 2 2] (w.alloc (.cells #[.int .i64 q, .int .i64 r] 140)) fun e w' => e = .returned (.bool (tkB [q, r] (kindAt ts i))) ∧ Below B w w' ∧
      PW w' B pb v ts (tkI [q, r] (kindAt ts i) i) d := by
  refine (take_any (w.alloc (.cells #[.int .i64 q, .int .i64 r] 140)) B pb v ts i d w.heap.size [q, r] (h.out.alloc _) ?_ (by simp) (by unfold Hid; simp only [List.mem_cons, List.not_mem_nil, or_false]; omega)).mono ?_
  · intro j u hj
    match j, hj with
    | 0, hj => simp at hj; subst hj; simp
    | 1, hj => simp at hj; subst hj; simp
    | j + 2, hj => simp at hj
  · rintro e w' ⟨rfl, hb, hp⟩
    exact ⟨rfl, ((Below.refl _ _).alloc h.out.size _).trans hb, hp⟩
theorem take3 (q r t : Int) (hq : q ≠ 0) (hr : r ≠ 0) (ht : t ≠ 0) (w : World) (B pb : Nat) (v : Value) (ts : List Tk) (i d : Nat) (h : Hid (PW w B pb v ts i d)) :
    Calls Tryz.prog 123 #[.pointer (some ⟨pb, 0, none⟩), .slice (some ⟨w.heap.size, 0, none⟩) 3 3] (w.alloc (.cells #[.int .i64 q, .int .i64 r, .int .i64 t] 140)) fun e w' => e = .returned (.bool (tkB [q, r, t] (kindAt ts i))) ∧ Below B w w' ∧
      PW w' B pb v ts (tkI [q, r, t] (kindAt ts i) i) d := by
  refine (take_any (w.alloc (.cells #[.int .i64 q, .int .i64 r, .int .i64 t] 140)) B pb v ts i d w.heap.size [q, r, t] (h.out.alloc _) ?_ (by simp) (by unfold Hid; simp only [List.mem_cons, List.not_mem_nil, or_false]; omega)).mono ?_
  · intro j u hj
    match j, hj with
    | 0, hj => simp at hj; subst hj; simp
    | 1, hj => simp at hj; subst hj; simp
    | 2, hj => simp at hj; subst hj; simp
    | j + 3, hj => simp at hj
  · rintro e w' ⟨rfl, hb, hp⟩
    exact ⟨rfl, ((Below.refl _ _).alloc h.out.size _).trans hb, hp⟩
def mark (ts : List Tk) (i : Nat) : List Tk := ts.modify i fun t => { t with k := 23 }
def ngs : Nat → List Tk → Nat → List Tk × Nat
  | 0, ts, i => (ts, i)
  | n + 1, ts, i => if kindAt ts i = 17 then ngs n (mark ts i) (i + 1) else (ts, i)
theorem mark_len (ts : List Tk) (i : Nat) : (mark ts i).length = ts.length := by simp [mark]
theorem flat_mark : ∀ (ts : List Tk) (i : Nat), i < ts.length → (mark ts i).flatMap tkCells = (ts.flatMap tkCells).set (i * 3) (.int .i64 23)
  | [], i, h => by simp at h
  | a :: r, 0, _ => by simp [mark, tkCells, List.modify_cons]
  | a :: r, i + 1, h => by
    have ih := flat_mark r i (by simpa using h)
    have e : mark (a :: r) (i + 1) = a :: mark r i := by simp [mark]
    rw [e, List.flatMap_cons, ih, List.flatMap_cons]
    rw [List.set_append_right _ _ (by simp [tkCells]; omega)]
    congr 2
    simp [tkCells]; omega
theorem PW.mark {w : World} {B pb : Nat} {v : Value} {ts : List Tk} {i d g cap : Nat} (h : PW w B pb v ts i d) (hv : v = .slice (some ⟨g, 0, none⟩) ts.length cap) (j : Nat) (hj : j < ts.length) :
    PW (w.setCell ⟨g, j * 3, none⟩ (.int .i64 23)) B pb v (YtlpmmmmniojflaaGreatDoor.mark ts j) i d := by
  have ho := h.own
  have ha := h.apart
  rw [hv] at ho ha
  have hs := (ho.stored (j * 3) (.int .i64 23)).1
  have hne : g ≠ pb := fun e => ha (by simp [Value.ownBlock, e])
  refine ⟨?_, ?_, h.low, h.apart, by rw [mark_len]; exact h.le, by rw [mark_len]; exact h.small, h.deep⟩
  · rw [Below.heap_setCell _ _ _ _ (fun e => hne e.symm)]; exact h.blk
  · rw [mark_len, flat_mark ts j hj, hv]; exact hs
theorem tkB_one (q k : Int) : tkB [q] k = (k == q) := by
  unfold tkB; rw [Bool.eq_iff_iff]; simp
set_option maxHeartbeats 1000000 in
theorem negations_any (w : World) (B pb : Nat) (v : Value) (ts : List Tk) (i d : Nat) (h : Hid (PW w B pb v ts i d)) :
    Calls Tryz.prog 209 #[.pointer (some ⟨pb, 0, none⟩)] w fun e w' => e = .returned (.tuple #[]) ∧ Below B w w' ∧ PW w' B pb v (ngs 8 ts i).1 (ngs 8 ts i).2 d := by
  go_enter Tryz.func209, Tryz.ntmps209
  go_wp2_with fail
  go_loopw [2] (fun x wr => ∃ (c : Nat) (ts' : List Tk) (i' : Nat), c ≤ 8 ∧ x = .int .i64 c ∧ Hid (PW wr B pb v ts' i' d) ∧ Hid (Below B w wr) ∧ Hid (ngs 8 ts i = ngs (8 - c) ts' i')) (fun x _ => 8 - (intOf x).toNat)
  case atStart => exact ⟨0, ts, i, by omega, rfl, h, Below.refl _ _, rfl⟩
  case round =>
    obtain ⟨c, ts', i', hc8, rfl, hpw, hb, hng⟩ := hrel
    by_cases hlt : c < 8
    · obtain ⟨c', hcc⟩ : ∃ c', 8 - c = c' + 1 := ⟨7 - c, by omega⟩
      have HC : Hid _ := hcc
      clear hcc
      by_cases hk : kindAt ts' i' = 17
      · have hil := kindAt_lt (ts := ts') (i := i') (by rw [hk]; decide)
        have hB : Hid (tkB [17] (kindAt ts' i') = true) := by unfold Hid; rw [tkB_one]; simpa using hk
        have hI : Hid (tkI [17] (kindAt ts' i') i' = i' + 1) := by unfold Hid tkI; rw [if_pos (by simpa using hk)]
        have HK : Hid _ := hk
        clear hk
        go_wp2_with (go_at_call 123; refine (take1 17 (by decide) _ B pb v ts' i' d hpw).mono ?_; rintro e w1 ⟨rfl, hb1, hpw1⟩; rw [hB.out]; rw [hI.out] at hpw1)
        have hlist := hpw1.list
        have hle1 := hpw1.le
        have hsm := hpw1.small
        rcases hlist with ⟨_, hnil⟩ | ⟨g, cap, hv, hg, hcap, hcs⟩
        · rw [hnil] at hil; simp at hil
        have c0 : w1.cell? ⟨pb, 0, none⟩ = some (.slice (some ⟨g, 0, none⟩) ts'.length cap) := by rw [← hv]; exact hpw1.c0
        have c1 : w1.cell? ⟨pb, 1, none⟩ = some (.int .i64 ((i' : Int) + 1)) := hpw1.c1
        obtain ⟨t, ht⟩ : ∃ t, ts'[i']? = some t := ⟨_, List.getElem?_eq_getElem hil⟩
        have k0 := (hcs i' t ht).1
        have hfz : w1.frozen? ⟨g, i' * 3, none⟩ = false := by
          have ho := hpw1.own
          rw [hv] at ho
          exact ho.frozenAt _
        have hlti : (i' : Int) < (ts'.length : Int) := by omega
        have HV : Hid _ := hv
        have HP : Hid _ := hpw1
        have HB1 : Hid _ := hb1
        clear hv hcs ht hpw1 hb1 hle1
        go_region
        go_wp2_with fail
        go_roundw
        case rel =>
          refine ⟨c + 1, YtlpmmmmniojflaaGreatDoor.mark ts' i', i' + 1, by omega, by go_num, ?_, ?_, ?_⟩
          · exact (HP.out.mark HV.out i' hil).of_heap rfl
          · exact ((hb.out.trans HB1.out).setCell hg _).drew
          · unfold Hid
            rw [hng.out, HC.out, ngs, if_pos HK.out]
            have : 8 - (c + 1) = c' := by have := HC.out; omega
            rw [this]
        case measure => simp [intOf]; omega
      · have hB : Hid (tkB [17] (kindAt ts' i') = false) := by unfold Hid; rw [tkB_one]; simpa using hk
        have hI : Hid (tkI [17] (kindAt ts' i') i' = i') := by unfold Hid tkI; rw [if_neg (by simpa using hk)]
        have HK : Hid _ := hk
        clear hk
        go_wp2_with (go_at_call 123; refine (take1 17 (by decide) _ B pb v ts' i' d hpw).mono ?_; rintro e w1 ⟨rfl, hb1, hpw1⟩; rw [hB.out]; rw [hI.out] at hpw1)
        refine bodyPost_ret (v := .tuple #[]) (by simp [results, Tryz.results209, go_sem]) rfl ?_
        rw [hng.out, HC.out, ngs, if_neg HK.out]
        exact ⟨rfl, hb.out.trans hb1, hpw1⟩
    · go_wp2_with fail
      go_end0
      have : 8 - c = 0 := by omega
      rw [hng.out, this, ngs]
      exact ⟨rfl, hb.out, hpw.out⟩
end Go.Proofs.YtlpmmmmniojflaaGreatDoor
/- The parser as a plain function (so many steps at most), and its functions 'formula', 'sum', 'product', 'corners', 'choice', 'bracketed', 'atom' in memory. -/
namespace Go.Proofs.YtlpmmmmniojflaaGreatDoor
open Go.RowKit
structure PR where
  ok : Bool
  ts : List Tk
  i : Nat
  d : Nat
def andThen (r : Option PR) (k : List Tk → Nat → Nat → Option PR) : Option PR :=
  match r with
  | none => none
  | some r => if r.ok = true then k r.ts r.i r.d else some r
def wants (q : Int) (ts : List Tk) (i d : Nat) (k : List Tk → Nat → Nat → Option PR) : Option PR :=
  if kindAt ts i = q then k ts (i + 1) d else some ⟨false, ts, i, d⟩
def prs : Nat → Nat → List Tk → Nat → Nat → Option PR
  | 0, _, _, _, _ => none
  | f + 1, tag, ts, i, d =>
    if tag = 0 then andThen (prs f 1 ts i d) fun ts i d => if kindAt ts i ∈ [21, 22] then prs f 1 ts (i + 1) d else some ⟨true, ts, i, d⟩
    else if tag = 1 then andThen (prs f 2 ts i d) fun ts i d => if kindAt ts i ∈ [16, 17, 20] then prs f 1 ts (i + 1) d else some ⟨true, ts, i, d⟩
    else if tag = 2 then andThen (prs f 3 ts i d) fun ts i d => if kindAt ts i ∈ [18, 19] then prs f 2 ts (i + 1) d else some ⟨true, ts, i, d⟩
    else if tag = 3 then
      if kindAt (ngs 8 ts i).1 (ngs 8 ts i).2 ∈ [1, 2, 3, 4, 5] then some ⟨true, (ngs 8 ts i).1, (ngs 8 ts i).2 + 1, d⟩
      else if kindAt (ngs 8 ts i).1 (ngs 8 ts i).2 = 12 then prs f 6 (ngs 8 ts i).1 (ngs 8 ts i).2 d
      else if kindAt (ngs 8 ts i).1 (ngs 8 ts i).2 = 6 then prs f 7 (ngs 8 ts i).1 ((ngs 8 ts i).2 + 1) d
      else if kindAt (ngs 8 ts i).1 (ngs 8 ts i).2 ∈ [7, 8] then prs f 6 (ngs 8 ts i).1 ((ngs 8 ts i).2 + 1) d
      else if kindAt (ngs 8 ts i).1 (ngs 8 ts i).2 ∈ [9, 10] then prs f 8 (ngs 8 ts i).1 ((ngs 8 ts i).2 + 1) d
      else some ⟨false, (ngs 8 ts i).1, (ngs 8 ts i).2, d⟩
    else if tag = 4 then andThen (prs f 0 ts i d) fun ts i d => wants 14 ts i d fun ts i d => andThen (prs f 0 ts i d) fun ts i d => wants 14 ts i d fun ts i d => prs f 0 ts i d
    else if tag = 5 then wants 5 ts i d fun ts i d => wants 15 ts i d fun ts i d => wants 5 ts i d fun ts i d => some ⟨true, ts, i, d⟩
    else if d = 8 then some ⟨false, ts, i, d⟩
    else wants 12 ts i d fun ts i d => andThen (prs f (if tag = 6 then 0 else if tag = 7 then 4 else 5) ts i (d + 1)) fun ts i d => wants 13 ts i d fun ts i d => some ⟨true, ts, i, d - 1⟩
def Cal (fn tag f : Nat) : Prop := ∀ (w : World) (B pb : Nat) (v : Value) (ts : List Tk) (i d : Nat) (r : PR), PW w B pb v ts i d → prs f tag ts i d = some r →
  Calls Tryz.prog fn #[.pointer (some ⟨pb, 0, none⟩)] w fun e w' => e = .returned (.bool r.ok) ∧ Below B w w' ∧ PW w' B pb v r.ts r.i r.d
theorem prs0 (f : Nat) (ts : List Tk) (i d : Nat) : prs (f + 1) 0 ts i d = andThen (prs f 1 ts i d) fun ts i d => if kindAt ts i ∈ [21, 22] then prs f 1 ts (i + 1) d else some ⟨true, ts, i, d⟩ := rfl
theorem prs1 (f : Nat) (ts : List Tk) (i d : Nat) : prs (f + 1) 1 ts i d = andThen (prs f 2 ts i d) fun ts i d => if kindAt ts i ∈ [16, 17, 20] then prs f 1 ts (i + 1) d else some ⟨true, ts, i, d⟩ := rfl
theorem prs2 (f : Nat) (ts : List Tk) (i d : Nat) : prs (f + 1) 2 ts i d = andThen (prs f 3 ts i d) fun ts i d => if kindAt ts i ∈ [18, 19] then prs f 2 ts (i + 1) d else some ⟨true, ts, i, d⟩ := rfl
theorem tk_yes {ks : List Int} {q : Int} (i : Nat) (h : q ∈ ks) : tkB ks q = true ∧ tkI ks q i = i + 1 := ⟨decide_eq_true h, if_pos h⟩
theorem tk_no {ks : List Int} {q : Int} (i : Nat) (h : ¬ q ∈ ks) : tkB ks q = false ∧ tkI ks q i = i := ⟨decide_eq_false h, if_neg h⟩
set_option maxHeartbeats 1000000 in
theorem formula_step (f : Nat) (s1 : Cal 122 1 f) : Cal 93 0 (f + 1) := by
  intro w B pb v ts i d r hpw he
  rw [prs0] at he
  match hr : prs f 1 ts i d with
  | none => rw [hr] at he; simp [andThen] at he
  | some r1 =>
    rw [hr] at he
    have HR : Hid _ := hr
    have HE : Hid _ := he
    have HP : Hid _ := hpw
    clear hr he hpw
    cases hok : r1.ok
    · have hrr : Hid (r1 = r) := by
        have := HE.out
        simp only [andThen, hok, Bool.false_eq_true, if_false, Option.some.injEq] at this
        exact this
      have HO : Hid _ := hok
      clear hok HE
      go_enter Tryz.func93, Tryz.ntmps93
      go_wp2_with fail
      refine (s1 _ B pb v ts i d r1 HP.out HR.out).mono ?_
      rintro e w1 ⟨rfl, hb1, hp1⟩
      rw [HO.out]
      go_wp2_with fail
      go_ret
      rw [← hrr.out, HO.out]
      exact ⟨rfl, hb1, hp1⟩
    · have HO : Hid _ := hok
      by_cases hin : kindAt r1.ts r1.i ∈ [21, 22]
      · obtain ⟨hB, hI⟩ := tk_yes r1.i hin
        have h2 : Hid (prs f 1 r1.ts (r1.i + 1) r1.d = some r) := by
          have := HE.out
          simp only [andThen, hok, if_true, if_pos hin] at this
          exact this
        have HB : Hid _ := hB
        have HI : Hid _ := hI
        clear hok HE hin hB hI
        go_enter Tryz.func93, Tryz.ntmps93
        go_wp2_with fail
        refine (s1 _ B pb v ts i d r1 HP.out HR.out).mono ?_
        rintro e w1 ⟨rfl, hb1, hp1⟩
        rw [HO.out]
        have HP1 : Hid _ := hp1
        have HB1 : Hid _ := hb1
        clear hp1 hb1
        go_wp2_with fail
        refine (take2 21 22 (by decide) (by decide) _ B pb v _ _ _ HP1).mono ?_
        rintro e w2 ⟨rfl, hb2, hp2⟩
        rw [HB.out]
        rw [HI.out] at hp2
        have HP2 : Hid _ := hp2
        have HB2 : Hid _ := hb2
        clear hp2 hb2
        go_wp2_with fail
        refine (s1 _ B pb v _ _ _ r HP2.out h2.out).mono ?_
        rintro e w3 ⟨rfl, hb3, hp3⟩
        go_wp2_with fail
        go_ret
        exact ⟨rfl, (HB1.out.trans HB2.out).trans hb3, hp3⟩
      · obtain ⟨hB, hI⟩ := tk_no r1.i hin
        have hrr : Hid (⟨true, r1.ts, r1.i, r1.d⟩ = r) := by
          have := HE.out
          simp only [andThen, hok, if_true, if_neg hin, Option.some.injEq] at this
          exact this
        have HB : Hid _ := hB
        have HI : Hid _ := hI
        clear hok HE hin hB hI
        go_enter Tryz.func93, Tryz.ntmps93
        go_wp2_with fail
        refine (s1 _ B pb v ts i d r1 HP.out HR.out).mono ?_
        rintro e w1 ⟨rfl, hb1, hp1⟩
        rw [HO.out]
        have HP1 : Hid _ := hp1
        have HB1 : Hid _ := hb1
        clear hp1 hb1
        go_wp2_with fail
        refine (take2 21 22 (by decide) (by decide) _ B pb v _ _ _ HP1).mono ?_
        rintro e w2 ⟨rfl, hb2, hp2⟩
        rw [HB.out]
        rw [HI.out] at hp2
        go_wp2_with fail
        go_ret
        rw [← hrr.out]
        exact ⟨rfl, HB1.out.trans hb2, hp2⟩
end Go.Proofs.YtlpmmmmniojflaaGreatDoor
/- The parser's functions 'sum' and 'product' (loops), 'corners', 'choice'. -/
namespace Go.Proofs.YtlpmmmmniojflaaGreatDoor
open Go.RowKit
set_option maxHeartbeats 1000000 in
theorem sum_step (f : Nat) (s2 : ∀ g, g ≤ f → Cal 155 2 g) : Cal 122 1 (f + 1) := by
  intro w B pb v ts i d r hpw he
  go_enter Tryz.func122, Tryz.ntmps122
  go_wp2_with fail
  go_loopg [3] (f + 1) (fun g _ wr => ∃ (ts' : List Tk) (i' d' : Nat), g ≤ f + 1 ∧ Hid (PW wr B pb v ts' i' d') ∧ Hid (Below B w wr) ∧ Hid (prs g 1 ts' i' d' = some r))
  case atStart => exact ⟨ts, i, d, Nat.le_refl _, hpw, Below.refl _ _, he⟩
  case round =>
    obtain ⟨ts', i', d', hg, HP, HW, he'⟩ := hrel
    clear hpw he
    match gk, hg, he' with
    | 0, _, he' => exact absurd he'.out (by simp [prs])
    | g + 1, hg, he' =>
      have he := he'.out
      clear he'
      rw [prs1] at he
      match hr : prs g 2 ts' i' d' with
      | none => rw [hr] at he; simp [andThen] at he
      | some r1 =>
        rw [hr] at he
        have HR : Hid _ := hr
        have HE : Hid _ := he
        have s3 := s2 g (by omega)
        clear hr he s2
        cases hok : r1.ok
        · have hrr : Hid (r1 = r) := by
            have := HE.out
            simp only [andThen, hok, Bool.false_eq_true, if_false, Option.some.injEq] at this
            exact this
          have HO : Hid _ := hok
          clear hok HE
          go_wp2_with fail
          refine (s3 _ B pb v _ _ _ r1 HP.out HR.out).mono ?_
          rintro e w1 ⟨rfl, hb1, hp1⟩
          rw [HO.out]
          go_wp2_with fail
          go_ret
          rw [← hrr.out, HO.out]
          exact ⟨rfl, HW.out.trans hb1, hp1⟩
        · have HO : Hid _ := hok
          by_cases hin : kindAt r1.ts r1.i ∈ [16, 17, 20]
          · obtain ⟨hB, hI⟩ := tk_yes r1.i hin
            have h2 : Hid (prs g 1 r1.ts (r1.i + 1) r1.d = some r) := by
              have := HE.out
              simp only [andThen, hok, if_true, if_pos hin] at this
              exact this
            have HB : Hid _ := hB
            have HI : Hid _ := hI
            clear hok HE hin hB hI
            go_wp2_with fail
            refine (s3 _ B pb v _ _ _ r1 HP.out HR.out).mono ?_
            rintro e w1 ⟨rfl, hb1, hp1⟩
            rw [HO.out]
            have HP1 : Hid _ := hp1
            have HB1 : Hid _ := hb1
            clear hp1 hb1
            go_wp2_with fail
            refine (take3 16 17 20 (by decide) (by decide) (by decide) _ B pb v _ _ _ HP1).mono ?_
            rintro e w2 ⟨rfl, hb2, hp2⟩
            rw [HB.out]
            rw [HI.out] at hp2
            have HP2 : Hid _ := hp2
            have HB2 : Hid _ := hb2
            clear hp2 hb2
            go_wp2_with fail
            go_roundg g
            case measure => omega
            case rel => exact ⟨r1.ts, r1.i + 1, r1.d, by omega, HP2, (HW.out.trans HB1.out).trans HB2.out, h2⟩
          · obtain ⟨hB, hI⟩ := tk_no r1.i hin
            have hrr : Hid (⟨true, r1.ts, r1.i, r1.d⟩ = r) := by
              have := HE.out
              simp only [andThen, hok, if_true, if_neg hin, Option.some.injEq] at this
              exact this
            have HB : Hid _ := hB
            have HI : Hid _ := hI
            clear hok HE hin hB hI
            go_wp2_with fail
            refine (s3 _ B pb v _ _ _ r1 HP.out HR.out).mono ?_
            rintro e w1 ⟨rfl, hb1, hp1⟩
            rw [HO.out]
            have HP1 : Hid _ := hp1
            have HB1 : Hid _ := hb1
            clear hp1 hb1
            go_wp2_with fail
            refine (take3 16 17 20 (by decide) (by decide) (by decide) _ B pb v _ _ _ HP1).mono ?_
            rintro e w2 ⟨rfl, hb2, hp2⟩
            rw [HB.out]
            rw [HI.out] at hp2
            go_wp2_with fail
            go_ret
            rw [← hrr.out]
            exact ⟨rfl, (HW.out.trans HB1.out).trans hb2, hp2⟩
set_option maxHeartbeats 1000000 in
theorem product_step (f : Nat) (s2 : ∀ g, g ≤ f → Cal 188 3 g) : Cal 155 2 (f + 1) := by
  intro w B pb v ts i d r hpw he
  go_enter Tryz.func155, Tryz.ntmps155
  go_wp2_with fail
  go_loopg [3] (f + 1) (fun g _ wr => ∃ (ts' : List Tk) (i' d' : Nat), g ≤ f + 1 ∧ Hid (PW wr B pb v ts' i' d') ∧ Hid (Below B w wr) ∧ Hid (prs g 2 ts' i' d' = some r))
  case atStart => exact ⟨ts, i, d, Nat.le_refl _, hpw, Below.refl _ _, he⟩
  case round =>
    obtain ⟨ts', i', d', hg, HP, HW, he'⟩ := hrel
    clear hpw he
    match gk, hg, he' with
    | 0, _, he' => exact absurd he'.out (by simp [prs])
    | g + 1, hg, he' =>
      have he := he'.out
      clear he'
      rw [prs2] at he
      match hr : prs g 3 ts' i' d' with
      | none => rw [hr] at he; simp [andThen] at he
      | some r1 =>
        rw [hr] at he
        have HR : Hid _ := hr
        have HE : Hid _ := he
        have s3 := s2 g (by omega)
        clear hr he s2
        cases hok : r1.ok
        · have hrr : Hid (r1 = r) := by
            have := HE.out
            simp only [andThen, hok, Bool.false_eq_true, if_false, Option.some.injEq] at this
            exact this
          have HO : Hid _ := hok
          clear hok HE
          go_wp2_with fail
          refine (s3 _ B pb v _ _ _ r1 HP.out HR.out).mono ?_
          rintro e w1 ⟨rfl, hb1, hp1⟩
          rw [HO.out]
          go_wp2_with fail
          go_ret
          rw [← hrr.out, HO.out]
          exact ⟨rfl, HW.out.trans hb1, hp1⟩
        · have HO : Hid _ := hok
          by_cases hin : kindAt r1.ts r1.i ∈ [18, 19]
          · obtain ⟨hB, hI⟩ := tk_yes r1.i hin
            have h2 : Hid (prs g 2 r1.ts (r1.i + 1) r1.d = some r) := by
              have := HE.out
              simp only [andThen, hok, if_true, if_pos hin] at this
              exact this
            have HB : Hid _ := hB
            have HI : Hid _ := hI
            clear hok HE hin hB hI
            go_wp2_with fail
            refine (s3 _ B pb v _ _ _ r1 HP.out HR.out).mono ?_
            rintro e w1 ⟨rfl, hb1, hp1⟩
            rw [HO.out]
            have HP1 : Hid _ := hp1
            have HB1 : Hid _ := hb1
            clear hp1 hb1
            go_wp2_with fail
            refine (take2 18 19 (by decide) (by decide) _ B pb v _ _ _ HP1).mono ?_
            rintro e w2 ⟨rfl, hb2, hp2⟩
            rw [HB.out]
            rw [HI.out] at hp2
            have HP2 : Hid _ := hp2
            have HB2 : Hid _ := hb2
            clear hp2 hb2
            go_wp2_with fail
            go_roundg g
            case measure => omega
            case rel => exact ⟨r1.ts, r1.i + 1, r1.d, by omega, HP2, (HW.out.trans HB1.out).trans HB2.out, h2⟩
          · obtain ⟨hB, hI⟩ := tk_no r1.i hin
            have hrr : Hid (⟨true, r1.ts, r1.i, r1.d⟩ = r) := by
              have := HE.out
              simp only [andThen, hok, if_true, if_neg hin, Option.some.injEq] at this
              exact this
            have HB : Hid _ := hB
            have HI : Hid _ := hI
            clear hok HE hin hB hI
            go_wp2_with fail
            refine (s3 _ B pb v _ _ _ r1 HP.out HR.out).mono ?_
            rintro e w1 ⟨rfl, hb1, hp1⟩
            rw [HO.out]
            have HP1 : Hid _ := hp1
            have HB1 : Hid _ := hb1
            clear hp1 hb1
            go_wp2_with fail
            refine (take2 18 19 (by decide) (by decide) _ B pb v _ _ _ HP1).mono ?_
            rintro e w2 ⟨rfl, hb2, hp2⟩
            rw [HB.out]
            rw [HI.out] at hp2
            go_wp2_with fail
            go_ret
            rw [← hrr.out]
            exact ⟨rfl, (HW.out.trans HB1.out).trans hb2, hp2⟩
theorem prs5 (f : Nat) (ts : List Tk) (i d : Nat) : prs (f + 1) 5 ts i d = wants 5 ts i d fun ts i d => wants 15 ts i d fun ts i d => wants 5 ts i d fun ts i d => some ⟨true, ts, i, d⟩ := rfl
theorem one_yes {q k : Int} (i : Nat) (h : k = q) : tkB [q] k = true ∧ tkI [q] k i = i + 1 := tk_yes i (by simpa using h)
theorem one_no {q k : Int} (i : Nat) (h : ¬ k = q) : tkB [q] k = false ∧ tkI [q] k i = i := tk_no i (by simpa using h)
set_option maxHeartbeats 1000000 in
theorem corners_step (f : Nat) : Cal 212 5 (f + 1) := by
  intro w B pb v ts i d r hpw he
  rw [prs5] at he
  have HP : Hid _ := hpw
  unfold wants at he
  have HE : Hid _ := he
  clear hpw he
  by_cases h1 : kindAt ts i = 5
  · obtain ⟨hB1, hI1⟩ := one_yes i h1
    have HBa : Hid _ := hB1
    have HIa : Hid _ := hI1
    by_cases h2 : kindAt ts (i + 1) = 15
    · obtain ⟨hB2, hI2⟩ := one_yes (i + 1) h2
      have HBb : Hid _ := hB2
      have HIb : Hid _ := hI2
      by_cases h3 : kindAt ts (i + 1 + 1) = 5
      · obtain ⟨hB3, hI3⟩ := one_yes (i + 1 + 1) h3
        have HBc : Hid _ := hB3
        have HIc : Hid _ := hI3
        have hrr : Hid (⟨true, ts, i + 1 + 1 + 1, d⟩ = r) := by
          have := HE.out
          simp only [if_pos h1, if_pos h2, if_pos h3, Option.some.injEq] at this
          exact this
        clear HE h1 h2 h3 hB1 hI1 hB2 hI2 hB3 hI3
        go_enter Tryz.func212, Tryz.ntmps212
        go_wp2_with fail
        refine (take1 5 (by decide) _ B pb v _ _ _ HP).mono ?_
        rintro e w1 ⟨rfl, hb1, hp1⟩
        rw [HBa.out]
        rw [HIa.out] at hp1
        have HP1 : Hid _ := hp1
        clear hp1
        go_wp2_with fail
        refine (take1 15 (by decide) _ B pb v _ _ _ HP1).mono ?_
        rintro e w2 ⟨rfl, hb2, hp2⟩
        rw [HBb.out]
        rw [HIb.out] at hp2
        have HP2 : Hid _ := hp2
        clear hp2
        go_wp2_with fail
        refine (take1 5 (by decide) _ B pb v _ _ _ HP2).mono ?_
        rintro e w3 ⟨rfl, hb3, hp3⟩
        rw [HBc.out]
        rw [HIc.out] at hp3
        go_wp2_with fail
        go_ret
        rw [← hrr.out]
        exact ⟨rfl, (hb1.trans hb2).trans hb3, hp3⟩
      · obtain ⟨hB3, hI3⟩ := one_no (i + 1 + 1) h3
        have HBc : Hid _ := hB3
        have HIc : Hid _ := hI3
        have hrr : Hid (⟨false, ts, i + 1 + 1, d⟩ = r) := by
          have := HE.out
          simp only [if_pos h1, if_pos h2, if_neg h3, Option.some.injEq] at this
          exact this
        clear HE h1 h2 h3 hB1 hI1 hB2 hI2 hB3 hI3
        go_enter Tryz.func212, Tryz.ntmps212
        go_wp2_with fail
        refine (take1 5 (by decide) _ B pb v _ _ _ HP).mono ?_
        rintro e w1 ⟨rfl, hb1, hp1⟩
        rw [HBa.out]
        rw [HIa.out] at hp1
        have HP1 : Hid _ := hp1
        clear hp1
        go_wp2_with fail
        refine (take1 15 (by decide) _ B pb v _ _ _ HP1).mono ?_
        rintro e w2 ⟨rfl, hb2, hp2⟩
        rw [HBb.out]
        rw [HIb.out] at hp2
        have HP2 : Hid _ := hp2
        clear hp2
        go_wp2_with fail
        refine (take1 5 (by decide) _ B pb v _ _ _ HP2).mono ?_
        rintro e w3 ⟨rfl, hb3, hp3⟩
        rw [HBc.out]
        rw [HIc.out] at hp3
        go_wp2_with fail
        go_ret
        rw [← hrr.out]
        exact ⟨rfl, (hb1.trans hb2).trans hb3, hp3⟩
    · obtain ⟨hB2, hI2⟩ := one_no (i + 1) h2
      have HBb : Hid _ := hB2
      have HIb : Hid _ := hI2
      have hrr : Hid (⟨false, ts, i + 1, d⟩ = r) := by
        have := HE.out
        simp only [if_pos h1, if_neg h2, Option.some.injEq] at this
        exact this
      clear HE h1 h2 hB1 hI1 hB2 hI2
      go_enter Tryz.func212, Tryz.ntmps212
      go_wp2_with fail
      refine (take1 5 (by decide) _ B pb v _ _ _ HP).mono ?_
      rintro e w1 ⟨rfl, hb1, hp1⟩
      rw [HBa.out]
      rw [HIa.out] at hp1
      have HP1 : Hid _ := hp1
      clear hp1
      go_wp2_with fail
      refine (take1 15 (by decide) _ B pb v _ _ _ HP1).mono ?_
      rintro e w2 ⟨rfl, hb2, hp2⟩
      rw [HBb.out]
      rw [HIb.out] at hp2
      go_wp2_with fail
      go_ret
      rw [← hrr.out]
      exact ⟨rfl, hb1.trans hb2, hp2⟩
  · obtain ⟨hB1, hI1⟩ := one_no i h1
    have HBa : Hid _ := hB1
    have HIa : Hid _ := hI1
    have hrr : Hid (⟨false, ts, i, d⟩ = r) := by
      have := HE.out
      simp only [if_neg h1, Option.some.injEq] at this
      exact this
    clear HE h1 hB1 hI1
    go_enter Tryz.func212, Tryz.ntmps212
    go_wp2_with fail
    refine (take1 5 (by decide) _ B pb v _ _ _ HP).mono ?_
    rintro e w1 ⟨rfl, hb1, hp1⟩
    rw [HBa.out]
    rw [HIa.out] at hp1
    go_wp2_with fail
    go_ret
    rw [← hrr.out]
    exact ⟨rfl, hb1, hp1⟩
end Go.Proofs.YtlpmmmmniojflaaGreatDoor
/- The parser's functions 'choice', 'bracketed', 'atom'. -/
namespace Go.Proofs.YtlpmmmmniojflaaGreatDoor
open Go.RowKit
theorem and_cases {x : Option PR} {k : List Tk → Nat → Nat → Option PR} {r : PR} (h : andThen x k = some r) : ∃ r1, x = some r1 ∧ ((r1.ok = false ∧ r1 = r) ∨ (r1.ok = true ∧ k r1.ts r1.i r1.d = some r)) := by
  match x, h with
  | none, h => simp [andThen] at h
  | some r1, h =>
    refine ⟨r1, rfl, ?_⟩
    cases hok : r1.ok
    · simp only [andThen, hok, Bool.false_eq_true, if_false, Option.some.injEq] at h
      exact Or.inl ⟨rfl, h⟩
    · simp only [andThen, hok, if_true] at h
      exact Or.inr ⟨rfl, h⟩
theorem wants_cases {q : Int} {ts : List Tk} {i d : Nat} {k : List Tk → Nat → Nat → Option PR} {r : PR} (h : wants q ts i d k = some r) :
    (tkB [q] (kindAt ts i) = false ∧ tkI [q] (kindAt ts i) i = i ∧ ⟨false, ts, i, d⟩ = r) ∨ (tkB [q] (kindAt ts i) = true ∧ tkI [q] (kindAt ts i) i = i + 1 ∧ k ts (i + 1) d = some r) := by
  unfold wants at h
  by_cases hq : kindAt ts i = q
  · rw [if_pos hq] at h
    exact Or.inr ⟨(one_yes i hq).1, (one_yes i hq).2, h⟩
  · rw [if_neg hq, Option.some.injEq] at h
    exact Or.inl ⟨(one_no i hq).1, (one_no i hq).2, h⟩
theorem prs4 (f : Nat) (ts : List Tk) (i d : Nat) : prs (f + 1) 4 ts i d = andThen (prs f 0 ts i d) fun ts i d => wants 14 ts i d fun ts i d => andThen (prs f 0 ts i d) fun ts i d => wants 14 ts i d fun ts i d => prs f 0 ts i d := rfl
set_option maxHeartbeats 2000000 in
theorem choice_step (f : Nat) (s0 : Cal 93 0 f) : Cal 211 4 (f + 1) := by
  intro w B pb v ts i d r hpw he
  rw [prs4] at he
  obtain ⟨r1, hr1, hc1⟩ := and_cases he
  have HP : Hid _ := hpw
  have HR1 : Hid _ := hr1
  have HC1 : Hid _ := hc1
  clear hpw he hr1 hc1
  go_enter Tryz.func211, Tryz.ntmps211
  go_wp2_with fail
  refine (s0 _ B pb v ts i d r1 HP.out HR1.out).mono ?_
  rintro e w1 ⟨rfl, hb1, hp1⟩
  rcases HC1.out with ⟨hok, hrr⟩ | ⟨hok, hk1⟩
  · have HO : Hid _ := hok
    have HRR : Hid _ := hrr
    clear HC1 hok hrr
    rw [HO.out]
    go_wp2_with fail
    go_ret
    rw [← HRR.out, HO.out]
    exact ⟨rfl, hb1, hp1⟩
  have HO : Hid _ := hok
  have HK1 : Hid _ := hk1
  have HP1 : Hid _ := hp1
  have HB1 : Hid _ := hb1
  clear HC1 hok hk1 hp1 hb1
  rw [HO.out]
  go_wp2_with fail
  refine (take1 14 (by decide) _ B pb v _ _ _ HP1).mono ?_
  rintro e w2 ⟨rfl, hb2, hp2⟩
  rcases wants_cases HK1.out with ⟨hB, hI, hrr⟩ | ⟨hB, hI, hk2⟩
  · have HBB : Hid _ := hB
    rw [hI] at hp2
    clear HK1 hB hI
    rw [HBB.out]
    have HRR : Hid _ := hrr
    clear hrr
    go_wp2_with fail
    go_ret
    rw [← HRR.out]
    exact ⟨rfl, HB1.out.trans hb2, hp2⟩
  have HBB : Hid _ := hB
  rw [hI] at hp2
  have HB2 : Hid (Below B w w2) := HB1.out.trans hb2
  have HP2 : Hid _ := hp2
  have HK2 : Hid _ := hk2
  clear HK1 HB1 hB hI hb2 hp2 hk2
  rw [HBB.out]
  obtain ⟨r2, hr2, hc2⟩ := and_cases HK2.out
  have HR2 : Hid _ := hr2
  have HC2 : Hid _ := hc2
  clear HK2 hr2 hc2
  go_wp2_with fail
  refine (s0 _ B pb v _ _ _ r2 HP2.out HR2.out).mono ?_
  rintro e w3 ⟨rfl, hb3, hp3⟩
  rcases HC2.out with ⟨hok, hrr⟩ | ⟨hok, hk3⟩
  · have HO2 : Hid _ := hok
    have HRR : Hid _ := hrr
    clear HC2 hok hrr
    rw [HO2.out]
    go_wp2_with fail
    go_ret
    rw [← HRR.out, HO2.out]
    exact ⟨rfl, HB2.out.trans hb3, hp3⟩
  have HO2 : Hid _ := hok
  have HK3 : Hid _ := hk3
  have HP3 : Hid _ := hp3
  have HB3 : Hid (Below B w w3) := HB2.out.trans hb3
  clear HC2 hok hk3 hp3 hb3 HB2
  rw [HO2.out]
  go_wp2_with fail
  refine (take1 14 (by decide) _ B pb v _ _ _ HP3).mono ?_
  rintro e w4 ⟨rfl, hb4, hp4⟩
  rcases wants_cases HK3.out with ⟨hB, hI, hrr⟩ | ⟨hB, hI, hk4⟩
  · have HBB4 : Hid _ := hB
    rw [hI] at hp4
    clear HK3 hB hI
    rw [HBB4.out]
    have HRR : Hid _ := hrr
    clear hrr
    go_wp2_with fail
    go_ret
    rw [← HRR.out]
    exact ⟨rfl, HB3.out.trans hb4, hp4⟩
  have HBB4 : Hid _ := hB
  rw [hI] at hp4
  have HB4 : Hid (Below B w w4) := HB3.out.trans hb4
  have HP4 : Hid _ := hp4
  have HK4 : Hid _ := hk4
  clear HK3 HB3 hB hI hb4 hp4 hk4
  rw [HBB4.out]
  go_wp2_with fail
  refine (s0 _ B pb v _ _ _ r HP4.out HK4.out).mono ?_
  rintro e w5 ⟨rfl, hb5, hp5⟩
  go_wp2_with fail
  all_goals
    go_ret
    refine ⟨ret_bool ?_, HB4.out.trans hb5, hp5⟩
    simp_all
end Go.Proofs.YtlpmmmmniojflaaGreatDoor
