/- 'isRange', 'checkCells': which cells a formula may name. -/
import Derived.Test.YtiocnfambeochaaGreatDoorRng
import Derived.Deep.RegionWith
namespace Go.Proofs.YtiocnfambeochaaGreatDoor
open Go.RowKit

/-- The slice v holds these tokens. -/
def TL (w : World) (v : Value) (ts : List Tk) : Prop :=
  (v = .slice none 0 0 ∧ ts = []) ∨ ∃ g cap, v = .slice (some ⟨g, 0, none⟩) ts.length cap ∧ ts.length ≤ cap ∧ ∀ (j : Nat) (t : Tk), ts[j]? = some t →
      w.cell? ⟨g, j * 3, none⟩ = some (.int .i64 t.k) ∧ w.cell? ⟨g, j * 3 + 1, none⟩ = some (.string ⟨t.x.toArray⟩) ∧ w.cell? ⟨g, j * 3 + 2, none⟩ = some (.int .i64 t.p)

def isR (l : List Tk) : Bool := decide (2 < l.length) && decide (kindAt l 1 = 15)
def badA (x y : Int × Bool) : Bool := decide (arI x y = 0) || decide (12 < arI x y)
def txtAt (ts : List Tk) (i : Nat) : List UInt8 := match ts[i]? with | some t => t.x | none => []
/-- The place of the first cell, or range, that may not be. -/
def chk : Nat → List Tk → Option Nat
  | 0, _ => none
  | _ + 1, [] => none
  | n + 1, t :: r =>
    if t.k ≠ 5 then chk n r
    else if isR (t :: r) = true then if badA (cn t.x) (cn (txtAt (t :: r) 2)) = true then some t.p else chk n (r.drop 2)
    else if (cn t.x).2 = true then chk n r else some t.p

set_option maxHeartbeats 1000000 in
theorem isRange_any (g off m c : Nat) (q : Int) (w : World) (hm : m ≤ 1000000) (hc : 2 < m → w.cell? ⟨g, off + 3, none⟩ = some (.int .i64 q)) :
    Calls Tryz.prog 124 #[.slice (some ⟨g, off, none⟩) m c] w fun e w' => e = .returned (.bool (decide (2 < m) && decide (q = 15))) ∧ w' = w := by
  by_cases h2 : 2 < m
  · have hc1 := hc h2
    have h2i : (2 : Int) < (m : Int) := by omega
    clear hc
    by_cases hq : q = 15
    · have b : (q == 15) = true := by simpa using hq
      have HR : Hid ((decide (2 < m) && decide (q = 15)) = true) := by unfold Hid; simp [h2, hq]
      generalize (decide (2 < m) && decide (q = 15)) = rr at *
      clear hq
      go_enter Tryz.func124, Tryz.ntmps124
      go_wp2
      go_ret
      rw [HR.out]
      exact ⟨rfl, rfl⟩
    · have b : (q == 15) = false := by simpa using hq
      have HR : Hid ((decide (2 < m) && decide (q = 15)) = false) := by unfold Hid; simp [hq]
      generalize (decide (2 < m) && decide (q = 15)) = rr at *
      clear hq
      go_enter Tryz.func124, Tryz.ntmps124
      go_wp2
      go_ret
      rw [HR.out]
      exact ⟨rfl, rfl⟩
  · have h2i : ¬ (2 : Int) < (m : Int) := by omega
    have HR : Hid ((decide (2 < m) && decide (q = 15)) = false) := by unfold Hid; simp [h2]
    generalize (decide (2 < m) && decide (q = 15)) = rr at *
    clear hc
    go_enter Tryz.func124, Tryz.ntmps124
    go_wp2
    go_ret
    rw [HR.out]
    exact ⟨rfl, rfl⟩

theorem drop_tk {ts : List Tk} {k : Nat} {t : Tk} (h : ts[k]? = some t) : ts.drop k = t :: ts.drop (k + 1) := by
  obtain ⟨hl, rfl⟩ := List.getElem?_eq_some_iff.1 h
  exact List.drop_eq_getElem_cons hl
theorem kindAt_drop (ts : List Tk) (k j : Nat) : kindAt (ts.drop k) j = kindAt ts (k + j) := by unfold kindAt; rw [List.getElem?_drop]
theorem txtAt_drop (ts : List Tk) (k j : Nat) : txtAt (ts.drop k) j = txtAt ts (k + j) := by unfold txtAt; rw [List.getElem?_drop]

theorem chk_other {ts : List Tk} {k f : Nat} {t : Tk} (ht : ts[k]? = some t) (h : t.k ≠ 5) : chk (f + 1) (ts.drop k) = chk f (ts.drop (k + 1)) := by
  rw [drop_tk ht, chk, if_pos h]
theorem chk_lone {ts : List Tk} {k f : Nat} {t : Tk} (ht : ts[k]? = some t) (h : t.k = 5) (hr : (decide (2 < ts.length - k) && decide (kindAt ts (k + 1) = 15)) = false) :
    chk (f + 1) (ts.drop k) = if (cn t.x).2 = true then chk f (ts.drop (k + 1)) else some t.p := by
  have e : isR (ts.drop k) = false := by unfold isR; rw [kindAt_drop, List.length_drop]; exact hr
  rw [drop_tk ht] at e ⊢
  rw [chk, if_neg (by simp [h]), e, if_neg (by simp)]
theorem chk_range {ts : List Tk} {k f : Nat} {t : Tk} (ht : ts[k]? = some t) (h : t.k = 5) (hr : (decide (2 < ts.length - k) && decide (kindAt ts (k + 1) = 15)) = true) :
    chk (f + 1) (ts.drop k) = if badA (cn t.x) (cn (txtAt ts (k + 2))) = true then some t.p else chk f (ts.drop (k + 3)) := by
  have e : isR (ts.drop k) = true := by unfold isR; rw [kindAt_drop, List.length_drop]; exact hr
  have e2 := txtAt_drop ts k 2
  rw [drop_tk ht] at e e2 ⊢
  rw [chk, if_neg (by simp [h]), e, if_pos rfl, e2, List.drop_drop]

set_option maxHeartbeats 2000000 in
theorem check_any (w : World) (v : Value) (ts : List Tk) (h : TL w v ts) (hs : ts.length ≤ 1000000) :
    Calls Tryz.prog 95 #[v] w fun e w' => Below w.heap.size w w' ∧ ((chk ts.length ts = none ∧ e = .returned (.tuple #[.int .i64 0, .bool true])) ∨ (∃ p : Nat, chk ts.length ts = some p ∧ e = .returned (.tuple #[.int .i64 p, .bool false]))) := by
  rcases h with ⟨rfl, rfl⟩ | ⟨g, cap, rfl, hcap, hc⟩
  · go_enter Tryz.func95, Tryz.ntmps95
    go_wp2_with fail
    refine wp_loop_rounds 1 ?_
    rw [rounds_succ]
    go_wp2_with fail
    go_ret2
    exact ⟨Below.refl _ _, Or.inl ⟨rfl, rfl⟩⟩
  have HC : Hid _ := hc
  clear hc
  go_enter Tryz.func95, Tryz.ntmps95
  go_wp2_with fail
  go_loopw [4] (fun x wr => ∃ (k f : Nat), k ≤ ts.length ∧ x = .int .i64 k ∧ Hid (Below w.heap.size w wr) ∧ ts.length - k ≤ f ∧ Hid (chk ts.length ts = chk f (ts.drop k))) (fun x _ => ts.length - (intOf x).toNat)
  case atStart => exact ⟨0, ts.length, by omega, rfl, Below.refl _ _, by omega, rfl⟩
  case round =>
    obtain ⟨k, f, hk, rfl, hwr, hf, hck⟩ := hrel
    have hcells : Hid (∀ (j : Nat) (t : Tk), ts[j]? = some t →
      wr.cell? ⟨g, j * 3, none⟩ = some (.int .i64 t.k) ∧ wr.cell? ⟨g, j * 3 + 1, none⟩ = some (.string ⟨t.x.toArray⟩) ∧ wr.cell? ⟨g, j * 3 + 2, none⟩ = some (.int .i64 t.p)) := by
      intro j t hj
      obtain ⟨a0, a1, a2⟩ := HC.out j t hj
      have hlt := World.block_lt_of_cell? w _ a0
      exact ⟨by rw [hwr.out.cell (p := ⟨g, j * 3, none⟩) hlt]; exact a0, by rw [hwr.out.cell (p := ⟨g, j * 3 + 1, none⟩) hlt]; exact a1, by rw [hwr.out.cell (p := ⟨g, j * 3 + 2, none⟩) hlt]; exact a2⟩
    by_cases hlt : k < ts.length
    · obtain ⟨f', rfl⟩ : ∃ f', f = f' + 1 := ⟨f - 1, by omega⟩
      obtain ⟨t, ht⟩ : ∃ t, ts[k]? = some t := ⟨_, List.getElem?_eq_getElem hlt⟩
      obtain ⟨c0, c1, c2⟩ := hcells.out k t ht
      have HT : Hid _ := ht
      have hlti : (k : Int) < (ts.length : Int) := by omega
      clear ht
      by_cases h5 : t.k = 5
      · have b5 : (t.k != 5) = false := by simpa using h5
        have H5 : Hid _ := h5
        clear h5
        have hcq : 2 < ts.length - k → wr.cell? ⟨g, k * 3 + 3, none⟩ = some (.int .i64 (kindAt ts (k + 1))) := fun h => by
          obtain ⟨t1, ht1⟩ : ∃ t1, ts[k + 1]? = some t1 := ⟨_, List.getElem?_eq_getElem (by omega)⟩
          have := (hcells.out (k + 1) t1 ht1).1
          have e : (k + 1) * 3 = k * 3 + 3 := by omega
          rw [e] at this
          rw [this]
          unfold kindAt
          rw [ht1]
        have HQ : Hid _ := hcq
        clear hcq
        go_wp2_with fail
        refine (isRange_any g (k * 3) (ts.length - k) (cap - k) (kindAt ts (k + 1)) _ (by omega) HQ.out).mono ?_
        rintro e w1 ⟨rfl, rfl⟩
        cases hr : (decide (2 < ts.length - k) && decide (kindAt ts (k + 1) = 15))
        · have HR : Hid _ := chk_lone (f := f') HT.out H5.out hr
          clear hr
          go_wp2_with fail
          refine (number_cell _ _).mono ?_
          rintro e w2 ⟨rfl, m, rfl⟩
          have ex : (⟨t.x.toArray⟩ : ByteArray).data.toList = t.x := rfl
          rw [ex]
          clear ex
          cases hb : (cn t.x).2
          · have HB : Hid _ := hb
            clear hb
            go_wp2_with fail
            go_ret2
            refine ⟨below_drewN hwr.out m, Or.inr ⟨t.p, ?_, rfl⟩⟩
            rw [hck.out, HR.out, HB.out, if_neg (by simp)]
          · have HB : Hid _ := hb
            clear hb
            go_wp2_with fail
            go_roundw
            case rel =>
              refine ⟨k + 1, f', by omega, by go_num, below_drewN hwr.out m, by omega, ?_⟩
              · unfold Hid; rw [hck.out, HR.out, HB.out, if_pos rfl]
            case measure => simp [intOf]; omega
        · have HR : Hid _ := chk_range (f := f') HT.out H5.out hr
          have hl2 : k + 2 < ts.length := by simp at hr; omega
          have hl2i : (k : Int) + 2 < (ts.length : Int) := by omega
          have hl2j : 0 ≤ (k : Int) + 2 := by omega
          have hw2 : IntKind.i64.wrap ((k : Int) + 2) = (k : Int) + 2 := by rw [IntKind.wrap_i64]; omega
          have htn : ((k : Int) + 2).toNat = k + 2 := by omega
          have hw3 : wrap64 ((k : Int) + 2) = (k : Int) + 2 := by unfold wrap64; omega
          obtain ⟨t2, ht2⟩ : ∃ t2, ts[k + 2]? = some t2 := ⟨_, List.getElem?_eq_getElem hl2⟩
          have d1 := (hcells.out (k + 2) t2 ht2).2.1
          have HX : Hid (txtAt ts (k + 2) = t2.x) := by unfold Hid txtAt; rw [ht2]
          clear hr ht2
          go_wp2_with fail
          go_region_with (go_at_call 125; refine (area_any _ _ _).mono ?_; rintro e w2 ⟨rfl, hb2⟩)
          all_goals
            have HB2 : Hid (Below w.heap.size w w2) := hwr.out.drew.trans (hb2.mono hwr.out.size)
            have c2' : w2.cell? ⟨g, k * 3 + 2, none⟩ = some (.int .i64 t.p) := by
              obtain ⟨a0, a1, a2⟩ := HC.out k t HT.out
              rw [HB2.out.cell (p := ⟨g, k * 3 + 2, none⟩) (World.block_lt_of_cell? w _ a2)]; exact a2
            clear hb2
            obtain ⟨a, ha⟩ : ∃ a, arI (cn t.x) (cn t2.x) = a := ⟨_, rfl⟩
            have HA : Hid (badA (cn t.x) (cn (txtAt ts (k + 2))) = (decide (a = 0) || decide (12 < a))) := by unfold Hid badA; rw [HX.out, ha]
            rw [ha]
            clear ha
            by_cases a0 : a = 0
            · have ab : (a == 0) = true := by simpa using a0
              have HB : Hid (badA (cn t.x) (cn (txtAt ts (k + 2))) = true) := by unfold Hid; rw [HA.out]; simp [a0]
              clear a0
              go_wp2_with fail
              go_ret2
              refine ⟨HB2.out, Or.inr ⟨t.p, ?_, rfl⟩⟩
              rw [hck.out, HR.out, HB.out, if_pos rfl]
            · have ab : (a == 0) = false := by simpa using a0
              by_cases a12 : 12 < a
              · have HB : Hid (badA (cn t.x) (cn (txtAt ts (k + 2))) = true) := by unfold Hid; rw [HA.out]; simp [a12]
                clear a0
                go_wp2_with fail
                go_ret2
                refine ⟨HB2.out, Or.inr ⟨t.p, ?_, rfl⟩⟩
                rw [hck.out, HR.out, HB.out, if_pos rfl]
              · have HB : Hid (badA (cn t.x) (cn (txtAt ts (k + 2))) = false) := by unfold Hid; rw [HA.out]; simp [a0, a12]
                clear a0
                go_wp2_with fail
                go_roundw
                case rel =>
                  refine ⟨k + 3, f', by omega, by go_num, HB2.out, by omega, ?_⟩
                  · unfold Hid; rw [hck.out, HR.out, HB.out, if_neg (by simp)]
                case measure => simp [intOf]; omega
      · have b5 : (t.k != 5) = true := by simpa using h5
        have H5 : Hid _ := h5
        clear h5
        go_wp2_with fail
        go_roundw
        case rel => exact ⟨k + 1, f', by omega, by go_num, hwr, by omega, by unfold Hid; rw [hck.out, chk_other HT.out H5.out]⟩
        case measure => simp [intOf]; omega
    · have e : k = ts.length := by omega
      have hlti : ¬ (k : Int) < (ts.length : Int) := by omega
      go_wp2_with fail
      go_ret2
      refine ⟨hwr.out, Or.inl ⟨?_, rfl⟩⟩
      rw [hck.out, e, List.drop_length]
      cases f <;> rfl
end Go.Proofs.YtiocnfambeochaaGreatDoor
