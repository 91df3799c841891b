/- A working out, walked: moveTo. -/
import Derived.Test.YtlpmmmmniojflaaGreatDoorQ22
set_option linter.unusedVariables false
set_option linter.unusedSimpArgs false
namespace Go.Proofs.YtlpmmmmniojflaaGreatDoor
open Go.RowKit
theorem move_split {l : List Nat} {p k c : Nat} (hc : l[p + k]? = some c) : l.drop p = (l.drop p).take k ++ c :: l.drop (p + k + 1) := by
  have h := (List.getElem?_eq_some_iff.1 hc)
  obtain ⟨hlt, he⟩ := h
  have e : (l.drop p).drop k = c :: l.drop (p + k + 1) := by
    rw [List.drop_drop, List.drop_eq_getElem_cons hlt, he]
  rw [← e, List.take_append_drop]
theorem move_is {l : List Nat} {p k c : Nat} (hc : l[p + k]? = some c) (hn : c ∉ (l.drop p).take k) : moveP p c l = l.take p ++ c :: ((l.drop p).take k ++ l.drop (p + k + 1)) := by
  unfold moveP
  congr 2
  conv => lhs; rw [move_split hc]
  rw [List.erase_append_right _ hn, List.erase_cons_head]
theorem move_get {l : List Nat} {p k c : Nat} (hc : l[p + k]? = some c) (hn : c ∉ (l.drop p).take k) (j : Nat) : (moveP p c l)[j]? = if j < p then l[j]? else if j = p then some c else if j ≤ p + k then l[j - 1]? else l[j]? := by
  have hlt := (List.getElem?_eq_some_iff.1 hc).1
  rw [move_is hc hn]
  have l1 : (l.take p).length = p := by rw [List.length_take]; omega
  have l2 : ((l.drop p).take k).length = k := by rw [List.length_take, List.length_drop]; omega
  by_cases h1 : j < p
  · rw [if_pos h1, List.getElem?_append_left (by omega), List.getElem?_take_of_lt h1]
  rw [if_neg h1, List.getElem?_append_right (by omega), l1]
  by_cases h2 : j = p
  · rw [if_pos h2, h2, Nat.sub_self]; rfl
  rw [if_neg h2]
  obtain ⟨i, hi⟩ : ∃ i, j - p = i + 1 := ⟨j - p - 1, by omega⟩
  rw [hi, List.getElem?_cons_succ]
  by_cases h3 : j ≤ p + k
  · rw [if_pos h3, List.getElem?_append_left (by omega), List.getElem?_take_of_lt (by omega), List.getElem?_drop]
    congr 1; omega
  · rw [if_neg h3, List.getElem?_append_right (by omega), l2, List.getElem?_drop]
    congr 1; omega
theorem intV_one (l : List Nat) : ∀ v ∈ l.map intV, v.oneCell' = true := by
  intro v hv
  obtain ⟨c, _, rfl⟩ := List.mem_map.1 hv
  rfl
theorem info3 : (Tryz.prog.info? 3).map (·.size) = some 1 := by kernel_rfl
theorem move_close {w : World} {x p k c : Nat} {l : List Nat} {cs : Array Value} (hx : w.heap[x]? = some (.cells cs 104 (0, 0))) (hs : cs.size = 755) (h : ChA w x l) (hc : l[p + k]? = some c) (hn : c ∉ (l.drop p).take k) :
    ChA ((w.setCells x (384 + (p + 1)) (((l.drop p).take k).map intV)).setCell ⟨x, 384 + p, none⟩ (.int .i64 c)) x (moveP p c l) ∧ Mv x w ((w.setCells x (384 + (p + 1)) (((l.drop p).take k).map intV)).setCell ⟨x, 384 + p, none⟩ (.int .i64 c)) := by
  have hlt := (List.getElem?_eq_some_iff.1 hc).1
  have hl := h.1
  have l2 : ((l.drop p).take k).length = k := by rw [List.length_take, List.length_drop]; omega
  have lm : (((l.drop p).take k).map intV).length = k := by rw [List.length_map, l2]
  have m1 : Mv x w (w.setCells x (384 + (p + 1)) (((l.drop p).take k).map intV)) := mv_cells _ _ _ (by omega) (by rw [lm]; omega)
  have m2 := m1.trans (mv_set (x := x) (w := w.setCells x (384 + (p + 1)) (((l.drop p).take k).map intV)) (j := 384 + p) (by omega) (by omega) (.int .i64 c))
  refine ⟨⟨?_, fun j d hj => ?_⟩, m2⟩
  · rw [move_is hc hn]
    simp only [List.length_append, List.length_cons, l2, List.length_take, List.length_drop]
    omega
  · rw [move_get hc hn] at hj
    have hj48 : j < 48 := by
      by_cases h1 : j < p
      · omega
      rw [if_neg h1] at hj
      by_cases h2 : j = p
      · omega
      rw [if_neg h2] at hj
      by_cases h3 : j ≤ p + k
      · omega
      · rw [if_neg h3] at hj
        have := (List.getElem?_eq_some_iff.1 hj).1
        omega
    by_cases h1 : j < p
    · rw [if_pos h1] at hj
      rw [World.cell?_setCell_other _ _ _ _ (fun e => by have := congrArg Addr.off e; simp at this; omega), World.cell?_setCells_out _ _ _ _ _ (fun _ _ => by left; show 384 + j < _; omega)]
      exact h.2 j d hj
    rw [if_neg h1] at hj
    by_cases h2 : j = p
    · rw [if_pos h2] at hj
      cases hj
      rw [h2]
      obtain ⟨cs1, k1, k2⟩ := m1.xb cs hx
      rw [cell_of_row _ x (384 + p) _ 104 (0, 0) (rset k1), Array.getElem?_setIfInBounds_self_of_lt (by omega)]
    rw [if_neg h2] at hj
    rw [World.cell?_setCell_other _ _ _ _ (fun e => by have := congrArg Addr.off e; simp at this; omega)]
    by_cases h3 : j ≤ p + k
    · rw [if_pos h3] at hj
      have hin := World.cell?_setCells_in x (((l.drop p).take k).map intV) (384 + (p + 1)) w (fun i hi => by
        rw [lm] at hi
        rw [cell_of_row w x _ _ 104 (0, 0) hx, Array.getElem?_eq_getElem (by omega)]; rfl) (j - (p + 1)) (by rw [lm]; omega)
      rw [show 384 + (p + 1) + (j - (p + 1)) = 384 + j by omega] at hin
      rw [hin]
      congr 1
      rw [List.getElem_map]
      have e : ((l.drop p).take k)[j - (p + 1)]? = some d := by
        rw [List.getElem?_take_of_lt (by omega), List.getElem?_drop, ← hj]
        congr 1; omega
      rw [List.getElem?_eq_getElem (by omega)] at e
      rw [Option.some.inj e]; rfl
    · rw [if_neg h3] at hj
      rw [World.cell?_setCells_out _ _ _ _ _ (fun _ _ => by right; show _ ≤ 384 + j; rw [lm]; omega)]
      exact h.2 j d hj
set_option maxRecDepth 100000 in
set_option maxHeartbeats 4000000 in
theorem moveTo_w (w : World) (x p c : Nat) (l : List Nat) (hx : Hid (∃ cs, w.heap[x]? = some (.cells cs 104 (0, 0)) ∧ cs.size = 755)) (h : Hid (ChA w x l)) (hc : Hid (c ∈ l.drop p)) (hp : Hid (l[p]? ≠ some c)) (hall : Hid (∀ c ∈ l, c < 48)) :
    Calls Tryz.prog 117 #[.int .i64 p, .int .i64 c, .pointer (some ⟨x, 384, none⟩)] w fun e w' => e = .returned (.tuple #[]) ∧ Hid (ChA w' x (moveP p c l) ∧ Mv x w w') := by
  have hp48 : p < 48 := by
    have := List.length_pos_of_mem hc.out
    rw [List.length_drop, h.out.1] at this
    omega
  have hpi : (p : Int) < 48 := by omega
  have HP : Hid (p < 48) := hp48
  have hp0 : 0 ≤ (p : Int) := by omega
  clear hp48
  go_enter Tryz.func117, Tryz.ntmps117
  go_wp2_with fail
  go_loopw [6] (fun s wr => ∃ k : Nat, s = .int .i64 (p + k) ∧ wr = w ∧ Hid (c ∉ (l.drop p).take k ∧ c ∈ (l.drop p).drop k)) (fun s _ => (100 - intOf s).toNat)
  case atStart => exact ⟨0, by simp, rfl, ⟨by simp, hc.out⟩⟩
  case round =>
    obtain ⟨k, rfl, rfl, HK⟩ := hrel
    have hk48 : p + k < 48 := by
      have := List.length_pos_of_mem HK.out.2
      rw [List.length_drop, List.length_drop, h.out.1] at this
      omega
    obtain ⟨d, hd⟩ : ∃ d, l[p + k]? = some d := ⟨_, List.getElem?_eq_getElem (by rw [h.out.1]; exact hk48)⟩
    have hcell := h.out.2 _ _ hd
    have hd48 : d < 48 := hall.out d (List.mem_of_getElem? hd)
    have HD : Hid (l[p + k]? = some d) := hd
    have hki : (p : Int) + k < 48 := by omega
    have hk0 : 0 ≤ (p : Int) + k := by omega
    have hnn : ((p : Int) + k).toNat = p + k := by omega
    have HKK : Hid (p + k < 48) := hk48
    by_cases hdc : d = c
    · have b1 : ((d : Int) != (c : Int)) = false := by rw [hdc]; simp
      have b1' : (d : Int) = (c : Int) := by rw [hdc]
      have hk1 : 1 ≤ k := by
        rcases Nat.eq_zero_or_pos k with h0 | h0
        · rw [h0, Nat.add_zero] at hd
          exact absurd (by rw [hd, hdc]) hp.out
        · exact h0
      have HK1 : Hid (1 ≤ k) := hk1
      have hr : (p : Int) + 1 ≤ 48 := by omega
      have hr0 : 0 ≤ (p : Int) + 1 := by omega
      have hs1 : (p : Int) ≤ (p : Int) + k := by omega
      have hs2 : (p : Int) + k ≤ 48 := by omega
      have hr1 : (p : Int) + 1 ≤ (p : Int) + k + 1 := by omega
      have hr2 : (p : Int) + k + 1 ≤ 48 := by omega
      have w1' : IntKind.i64.wrap ((p : Int) + 1) = (p : Int) + 1 := by rw [IntKind.wrap_i64]; omega
      have w2' : wrap64 ((p : Int) + 1) = (p : Int) + 1 := by unfold wrap64; omega
      have w3' : IntKind.i64.wrap ((p : Int) + k + 1) = (p : Int) + k + 1 := by rw [IntKind.wrap_i64]; omega
      have w4' : wrap64 ((p : Int) + k + 1) = (p : Int) + k + 1 := by unfold wrap64; omega
      have w5' : ((p : Int) + 1).toNat = p + 1 := by omega
      have w6' : ((p : Int) + k + 1).toNat = p + k + 1 := by omega
      have h47 : ¬ p = 47 := by omega
      have h48 : ¬ 48 = p := by omega
      have l2 : ((l.drop p).take k).length = k := by rw [List.length_take, List.length_drop, h.out.1]; omega
      obtain ⟨cs, hcs⟩ : ∃ cs, cs = ((l.drop p).take k).map intV := ⟨_, rfl⟩
      have hl : cs.length = k := by rw [hcs, List.length_map, l2]
      have HL : Hid (cs.length = Nat.min k k) := by unfold Hid; rw [hl]; exact (Nat.min_self k).symm
      obtain ⟨xs, hxb, hxs⟩ := hx.out
      have HSRC : Hid (∀ j v, cs[j]? = some v → wr.drew.cell? ((⟨x, 384 + p, none⟩ : Addr).add j) = some v) := by
        intro j v hj
        rw [hcs, List.getElem?_map] at hj
        obtain ⟨d', hd1, rfl⟩ := Option.map_eq_some_iff.1 hj
        have hjk : j < k := by have := (List.getElem?_eq_some_iff.1 hd1).1; omega
        rw [List.getElem?_take_of_lt hjk, List.getElem?_drop] at hd1
        have e := h.out.2 _ _ hd1
        have ea : (⟨x, 384 + p, none⟩ : Addr).add j = ⟨x, 384 + (p + j), none⟩ := by
          unfold Addr.add
          split
          · rename_i h0; rw [h0, Nat.add_zero]
          · show (⟨x, 384 + p + j, none⟩ : Addr) = _; rw [Nat.add_assoc]
        rw [ea]; exact e
      have HCC : Hid (∀ j, j < cs.length → (wr.drew.cell? ⟨x, 384 + (p + 1) + j, none⟩).isSome = true) := by
        intro j hj
        have e : wr.drew.cell? ⟨x, 384 + (p + 1) + j, none⟩ = xs[384 + (p + 1) + j]? := cell_of_row wr.drew x _ xs 104 (0, 0) hxb
        rw [e, Array.getElem?_eq_getElem (by omega)]; rfl
      have HFZ : Hid (∀ j, j < cs.length → wr.drew.frozen? ⟨x, 384 + (p + 1) + j, none⟩ = false) := by
        intro j hj
        have : wr.drew.heap[x]? = some (.cells xs 104 (0, 0)) := hxb
        simp [World.frozen?, this]
      have HO : Hid (∀ v ∈ cs, v.oneCell' = true) := by unfold Hid; rw [hcs]; exact intV_one _
      have HCS : Hid (cs = ((l.drop p).take k).map intV) := hcs
      have HDC : Hid (d = c) := hdc
      have HXB : Hid (wr.heap[x]? = some (.cells xs 104 (0, 0)) ∧ xs.size = 755) := ⟨hxb, hxs⟩
      generalize hW2 : wr.drew.setCells x (384 + (p + 1)) cs = W2
      have HW2 : Hid (wr.drew.setCells x (384 + (p + 1)) cs = W2) := hW2
      have hrun : (Builtin.copy_ #[56, 56] 3 #[.slice (some ⟨x, 384 + (p + 1), none⟩) k (47 - p), .slice (some ⟨x, 384 + p, none⟩) k (48 - p)]).run Tryz.prog wr.drew = .ok (.int .i64 k) W2 := by
        rw [← hW2]
        have := run_copy_cells (P := Tryz.prog) wr.drew 56 56 3 3 x (384 + (p + 1)) k (47 - p) ⟨x, 384 + p, none⟩ k (48 - p) cs Tryz.underlying56 info3 HL.out HSRC.out HCC.out HFZ.out HO.out
        rw [hl] at this
        exact this
      have hmv : Mv x wr.drew W2 := by
        rw [← hW2]
        exact mv_cells _ _ _ (by omega) (by rw [hl]; omega)
      obtain ⟨cs2, hx2, hs2⟩ := hmv.xb xs hxb
      obtain ⟨v1, q1⟩ : ∃ v, W2.cell? ⟨x, 384 + p, none⟩ = some v := by
        rw [cell_of_row W2 x _ cs2 104 (0, 0) hx2, Array.getElem?_eq_getElem (by omega)]; exact ⟨_, rfl⟩
      have q2 : W2.frozen? ⟨x, 384 + p, none⟩ = false := by simp [World.frozen?, hx2]
      clear hk48 hcs hl l2 hxb hxs hd hdc hW2 hmv hx2 hs2 HL HSRC HCC HFZ HO
      go_wp2_with fail
      go_region
      all_goals
        go_wp2_with fail
        refine bodyPost_end (results_none rfl _ _ _) rfl ⟨rfl, ?_⟩
        rw [← HW2.out, HCS.out]
        have hm := move_close (w := wr.drew) HXB.out.1 HXB.out.2 h.out (by rw [HD.out, HDC.out]) HK.out.1
        exact ⟨hm.1, Mv.trans (w1 := wr.drew) ⟨rfl, rfl, rfl, rfl, fun _ _ => rfl, fun cs h => ⟨cs, h, rfl⟩, fun _ _ => rfl⟩ hm.2⟩
    · have b1 : ((d : Int) != (c : Int)) = true := by simp; omega
      have b1' : ¬ (d : Int) = (c : Int) := by omega
      go_wp2_with fail
      go_roundw
      case rel =>
        refine ⟨k + 1, by go_num, by trivial, ?_⟩
        obtain ⟨k1, k2⟩ := HK.out
        have e : (l.drop p)[k]? = some d := by rw [List.getElem?_drop]; exact HD.out
        have e2 : (l.drop p).take (k + 1) = (l.drop p).take k ++ [d] := by rw [List.take_add_one, e]; rfl
        have e3 : (l.drop p).drop k = d :: (l.drop p).drop (k + 1) := by
          obtain ⟨hlt, he⟩ := List.getElem?_eq_some_iff.1 e
          rw [List.drop_eq_getElem_cons hlt, he]
        refine ⟨?_, ?_⟩
        · rw [e2, List.mem_append, List.mem_singleton]
          rintro (h | h)
          · exact k1 h
          · exact b1' (by rw [h])
        · rw [e3] at k2
          rcases List.mem_cons.1 k2 with h | h
          · exact absurd (by rw [h]) b1'
          · exact h
      case measure => simp [intOf]; omega
end Go.Proofs.YtlpmmmmniojflaaGreatDoor
