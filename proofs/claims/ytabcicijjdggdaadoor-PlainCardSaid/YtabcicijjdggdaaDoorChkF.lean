/- The sheet's own 'check', of an edit of F8 with a formula that may be. -/
import Derived.Test.YtabcicijjdggdaaDoorNumW
import Derived.Test.YtabcicijjdggdaaDoorTell
import Derived.Test.YtabcicijjdggdaaDoorTop
import Derived.Test.YtabcicijjdggdaaDoorFeed
namespace Go.Proofs.YtabcicijjdggdaaDoor
open Go.RowKit

theorem results_tmp4 {fn : Func} {t u v z : Tmp} (h : fn.results = #[.tmp t, .tmp u, .tmp v, .tmp z]) (tmps : Array Value) (P : Program) (w : World) :
    (results fn tmps).run P w = .ok (.tuple #[tmps.getD t undef, tmps.getD u undef, tmps.getD v undef, tmps.getD z undef]) w := by
  simp [results, h]
theorem SH.lt {w : World} {x : Nat} (h : SH w x) : x < w.heap.size := by
  obtain ⟨cs, hb, _⟩ := h
  exact (Array.getElem?_eq_some_iff.1 hb).1
theorem SH.below {w w' : World} {x : Nat} (h : SH w x) (hb : Below w.heap.size w w') : SH w' x := by
  have hl := h.lt
  obtain ⟨cs, h1, h2⟩ := h
  exact ⟨cs, by rw [hb.block x hl]; exact h1, h2⟩
theorem SH.low {w : World} {x : Nat} (h : SH w x) : w.cell? ⟨x, 143, none⟩ = some (.int .i64 (-9223372036854775808)) ∧ w.cell? ⟨x, 144, none⟩ = some (.int .i64 9223372036854775807) := by
  obtain ⟨cs, hb, _, _, h1, h2⟩ := h
  exact ⟨by rw [cell_of_row w x 143 cs 59 (0, 0) hb]; exact h1, by rw [cell_of_row w x 144 cs 59 (0, 0) hb]; exact h2⟩

theorem rd_place (l : List UInt8) : (rd l).e = 0 → (rd l).p = 0 := by
  unfold rd
  split
  · simp
  · split
    · simp
    · split
      · simp
      · unfold rdP
        split
        · simp
        · split <;> simp

set_option maxHeartbeats 2000000 in
theorem check_f8 (W : World) (x : Nat) (s : ByteArray) (hSH : Hid (SH W x)) (hA : Hid (Amb W)) (he : Hid ((rd s.data.toList).e = 0)) (hs0 : 0 < s.size) (hl : s.size ≤ 120) :
    Calls Tryd.prog 27 #[.pointer (some ⟨x, 0, none⟩), .agg #[.string ⟨#[70, 56]⟩, .string s]] W fun e w' => e = .returned (.tuple #[.int .i64 47, .string ⟨(plT s.data.toList).toArray⟩, .int .i64 0, .int .i64 0]) ∧ Below W.heap.size W w' := by
  have HS : Hid _ := rd_small s.data.toList
  have HL : Hid _ := rd_len s.data.toList
  have HP2 : Hid (plT s.data.toList = (rd s.data.toList).ts.flatMap ptk) := by unfold Hid plT; rw [if_pos he.out]
  have hse : s.toList.isEmpty = false := by
    rw [← decide_eq_emptyBytes]
    exact decide_eq_false fun h => by rw [h] at hs0; exact absurd hs0 (by decide)
  go_enter Tryd.func27, Tryd.ntmps27
  go_wp2_with fail
  refine (num_f8 _).mono ?_
  rintro e w1 ⟨rfl, n, hw⟩
  have HB1 : Hid (Below W.heap.size W w1) := by unfold Hid; rw [hw]; exact below_drewN ((Below.refl _ _).alloc (Nat.le_refl _) _) n
  have hc1 : w1.cell? ⟨W.heap.size, 1, none⟩ = some (.string s) := by
    rw [hw]
    show (W.alloc _).cell? _ = _
    rw [cell_of_row _ W.heap.size 1 _ 50 (0, 0) (heap_alloc_new W _)]
    rfl
  clear hw
  have HE1 : Hid (ErrVar w1) := (hA.out.below HB1.out).1
  go_wp2_with fail
  refine (read_any s _ HE1 (by unfold maxLen; omega)).mono ?_
  rintro e w2 ⟨hb2, v, rfl, _, hown⟩
  obtain ⟨⟨e, p, ts⟩, hR⟩ : ∃ R, rd s.data.toList = R := ⟨_, rfl⟩
  have HZ : Hid ((rd s.data.toList).e = 0 → (rd s.data.toList).p = 0) := rd_place _
  rw [hR] at hown HS HL HP2 he HZ ⊢
  clear hR
  simp only at hown HS HL HP2 he HZ ⊢
  have h0 := he.out
  subst h0
  have hz := HZ.out rfl
  subst hz
  have HB2 : Hid (Below W.heap.size W w2) := HB1.out.trans (hb2.mono HB1.out.size)
  obtain ⟨ao, c, hv⟩ : ∃ ao c, v = .slice ao ts.length c := by
    rcases hown.2 with ⟨hv, hn0⟩ | ⟨g, cap, cur, hv, _⟩
    · exact ⟨none, 0, by rw [hv, hn0]⟩
    · exact ⟨_, _, hv⟩
  subst hv
  have HO : Hid (w2.ownsRow w1.heap.size 72 3 (.slice ao ts.length c) ts.length (ts.flatMap tkCells)) := hown
  have HA2 : Hid (Amb w2) := hA.out.below HB2.out
  clear hown hb2 HZ he
  go_wp2_with fail
  refine (gnumber_any _ _ ts (ownsRow_TL HO.out) (by have := HL.out; omega) (fun t h => Nat.le_trans (HS.out t h) (by omega)) HA2.out.1 HA2.out.2.2).mono ?_
  rintro e w3 ⟨k, b, rfl, ⟨hk1, hk2⟩, hb3⟩
  have HB3 : Hid (Below W.heap.size W w3) := HB2.out.trans (hb3.mono HB2.out.size)
  have HO3 : Hid (w3.ownsRow w1.heap.size 72 3 (.slice ao ts.length c) ts.length (ts.flatMap tkCells)) := owns_below HO.out hb3
  have HK : Hid (-9223372036854775808 ≤ k ∧ k ≤ 9223372036854775807) := ⟨hk1, hk2⟩
  obtain ⟨hlo, hhi⟩ := (hSH.out.below HB3.out).low
  clear hb3 hk1 hk2 HO HA2
  cases b with
  | false =>
    clear hlo hhi
    go_wp2_with fail
    refine (plain_any _ _ ts (ownsRow_TL HO3.out) (by have := HL.out; omega) (fun t h => Nat.le_trans (HS.out t h) (by omega))).mono ?_
    rintro e w4 ⟨rfl, hb4⟩
    have HB4 : Hid (Below W.heap.size W w4) := HB3.out.trans (hb4.mono HB3.out.size)
    clear hb4
    go_wp2_with fail
    refine bodyPost_ret (results_tmp4 rfl _ _ _) rfl ?_
    rw [HP2.out]
    exact ⟨rfl, HB4.out⟩
  | true =>
    go_wp2_with fail
    refine (refuses_none _ k HK.out.1 HK.out.2).mono ?_
    rintro e w4 ⟨rfl, hb4⟩
    have HB4 : Hid (Below W.heap.size W w4) := HB3.out.trans (hb4.mono HB3.out.size)
    have HO4 : Hid (w4.ownsRow w1.heap.size 72 3 (.slice ao ts.length c) ts.length (ts.flatMap tkCells)) := owns_below HO3.out hb4
    clear hb4 hlo hhi HO3
    go_wp2_with fail
    refine (plain_any _ _ ts (ownsRow_TL HO4.out) (by have := HL.out; omega) (fun t h => Nat.le_trans (HS.out t h) (by omega))).mono ?_
    rintro e w5 ⟨rfl, hb5⟩
    have HB5 : Hid (Below W.heap.size W w5) := HB4.out.trans (hb5.mono HB4.out.size)
    clear hb5
    go_wp2_with fail
    refine bodyPost_ret (results_tmp4 rfl _ _ _) rfl ?_
    rw [HP2.out]
    exact ⟨rfl, HB5.out⟩
end Go.Proofs.YtabcicijjdggdaaDoor
