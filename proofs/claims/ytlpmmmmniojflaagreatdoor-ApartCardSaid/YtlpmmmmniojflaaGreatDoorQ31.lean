/- Texts put together. -/
import Derived.Test.YtlpmmmmniojflaaGreatDoorQ30
import Derived.Test.YtlpmmmmniojflaaGreatDoorQ15
import Derived.Test.YtlpmmmmniojflaaGreatDoorQ06
/- A working out, walked: a cell is settled; the store takes an answer in. -/
set_option linter.unusedVariables false
set_option linter.unusedSimpArgs false
namespace Go.Proofs.YtlpmmmmniojflaaGreatDoor
open Go.RowKit
theorem RE.settled {w : World} {own : Nat → Nat} {b x c : Nat} {r : Rn} (h : RE w own b x r c) (hc : c < 48) (a : Ans) (rv : Value) (hr : RdSl w rv a.rs) (hg : ∀ g, rv.ownBlock = some g → (own g = 0 ∨ own g = cR c)) :
    RS w own b x (w.setCells b (T c) (tkC16 a rv).toList) (settle r c a) := by
  obtain ⟨cs, hb, hs⟩ := h.blk
  obtain ⟨cs', e1, e2, e3, e4⟩ := setCells_row (tkC16 a rv).toList (T c) w cs hb
  have hcell : ∀ j, (w.setCells b (T c) (tkC16 a rv).toList).cell? ⟨b, j, none⟩ = cs'[j]? := fun j => cell_of_row _ b j cs' 187 (0, 0) e1
  have hin : ∀ t, t < 16 → (w.setCells b (T c) (tkC16 a rv).toList).cell? ⟨b, T c + t, none⟩ = (tkC16 a rv).toList[t]? := fun t ht => by
    rw [hcell, e3, if_pos ⟨by omega, by show T c + t < T c + 16; omega, by unfold T; omega⟩, Nat.add_sub_cancel_left]
  have g : Chg own (cC c) b (T c) (T c + 16) w (w.setCells b (T c) (tkC16 a rv).toList) := ⟨e4.os, e4.tape, e4.output, e4.size, fun k hk hkb _ => e4.block k hk hkb, fun cs0 t0 h0 => by
    rw [hb] at h0
    cases h0
    refine ⟨cs', e1, e2, fun j hj => ?_⟩
    rw [e3, if_neg]
    show ¬ (T c ≤ j ∧ j < T c + 16 ∧ _)
    omega⟩
  have hrb : ∀ gg, rv.ownBlock = some gg → gg ≠ b := fun gg hgg e => by
    rcases hr.2 with ⟨rfl, _⟩ | ⟨g', o, cap, cur, rfl, hgb, _⟩
    · cases hgg
    · cases hgg
      exact h.notRead cur ((show g' = b from e) ▸ hgb)
  have hmz : MZ (w.setCells b (T c) (tkC16 a rv).toList) b c := fun j h4 hj => by
    rcases (show j = 4 ∨ j = 5 ∨ j = 6 ∨ j = 7 ∨ j = 8 ∨ j = 9 ∨ j = 10 by omega) with rfl | rfl | rfl | rfl | rfl | rfl | rfl
    · exact ⟨_, hin 4 (by omega), rfl⟩
    · exact ⟨_, hin 5 (by omega), rfl⟩
    · exact ⟨_, hin 6 (by omega), rfl⟩
    · exact ⟨_, hin 7 (by omega), rfl⟩
    · exact ⟨_, hin 8 (by omega), rfl⟩
    · exact ⟨_, hin 9 (by omega), rfl⟩
    · exact ⟨_, hin 10 (by omega), rfl⟩
  refine ⟨zc own c, h.task hc g (fun k hk hn => ?_) ?_⟩
  · unfold zc
    rw [if_neg (fun e => hn (.inr (.inr (.inr e))))]
  · refine { st := hin 0 (by omega), wt := hin 1 (by omega), kn := ⟨.slice none 0 0, [], hin 2 (by omega), ⟨slc_nil _ _ _, fun g hg => by cases hg⟩, rfl⟩, held := hin 3 (by omega), run := fun e => (by cases e), mz := fun _ => hmz, ans := fun _ => ?_ }
    refine { f := hin 11 (by omega), rs := ⟨rv, hin 12 (by omega), hr.kept fun gg hgg => e4.block gg (hr.lt gg hgg) (hrb gg hgg), fun gg hgg => ?_⟩, k := hin 13 (by omega), n := hin 14 (by omega), s := hin 15 (by omega) }
    unfold zc
    rcases hg gg hgg with e | e
    · split
      · rfl
      · exact e
    · rw [if_pos e]
set_option maxRecDepth 100000 in
set_option maxHeartbeats 4000000 in
theorem settle_we (w : World) (own : Nat → Nat) (b x : Nat) (r : Rn) (c : Nat) (a : Ans) (rv : Value) (hc : c < 48) (h : Hid (RE w own b x r c)) (hr : Hid (RdSl w rv a.rs)) (hg : Hid (∀ g, rv.ownBlock = some g → (own g = 0 ∨ own g = cR c))) :
    Calls Tryz.prog 113 #[.pointer (some ⟨b, 0, none⟩), .int .i64 c, ansV a rv] w fun e w' => e = .returned (.tuple #[]) ∧ Hid (RS w own b x w' (settle r c a)) := by
  have hci : (c : Int) < 48 := by omega
  have hc0 : 0 ≤ (c : Int) := by omega
  have hlt := h.out.lt
  have n1 : b ≠ w.heap.size := by omega
  have n2 : w.heap.size ≠ b := by omega
  have hex : ∀ j, j < 16 → ∃ v, w.cell? ⟨b, 290 + c * 16 + j, none⟩ = some v := fun j hj => by
    obtain ⟨cs, hb, hs⟩ := h.out.blk
    exact ⟨_, by rw [cell_of_row _ b _ cs 187 (0, 0) hb, Array.getElem?_eq_getElem (by omega)]⟩
  obtain ⟨u0, hu0⟩ := hex 0 (by omega)
  have hz0 := h.out.frozen (290 + c * 16)
  rw [Nat.add_zero] at hu0
  obtain ⟨u1, hu1⟩ := hex 1 (by omega)
  have hz1 := h.out.frozen (290 + c * 16 + 1)
  obtain ⟨u2, hu2⟩ := hex 2 (by omega)
  have hz2 := h.out.frozen (290 + c * 16 + 2)
  obtain ⟨u3, hu3⟩ := hex 3 (by omega)
  have hz3 := h.out.frozen (290 + c * 16 + 3)
  obtain ⟨u4, hu4⟩ := hex 4 (by omega)
  have hz4 := h.out.frozen (290 + c * 16 + 4)
  obtain ⟨u5, hu5⟩ := hex 5 (by omega)
  have hz5 := h.out.frozen (290 + c * 16 + 5)
  obtain ⟨u6, hu6⟩ := hex 6 (by omega)
  have hz6 := h.out.frozen (290 + c * 16 + 6)
  obtain ⟨u7, hu7⟩ := hex 7 (by omega)
  have hz7 := h.out.frozen (290 + c * 16 + 7)
  obtain ⟨u8, hu8⟩ := hex 8 (by omega)
  have hz8 := h.out.frozen (290 + c * 16 + 8)
  obtain ⟨u9, hu9⟩ := hex 9 (by omega)
  have hz9 := h.out.frozen (290 + c * 16 + 9)
  obtain ⟨u10, hu10⟩ := hex 10 (by omega)
  have hz10 := h.out.frozen (290 + c * 16 + 10)
  obtain ⟨u11, hu11⟩ := hex 11 (by omega)
  have hz11 := h.out.frozen (290 + c * 16 + 11)
  obtain ⟨u12, hu12⟩ := hex 12 (by omega)
  have hz12 := h.out.frozen (290 + c * 16 + 12)
  obtain ⟨u13, hu13⟩ := hex 13 (by omega)
  have hz13 := h.out.frozen (290 + c * 16 + 13)
  obtain ⟨u14, hu14⟩ := hex 14 (by omega)
  have hz14 := h.out.frozen (290 + c * 16 + 14)
  obtain ⟨u15, hu15⟩ := hex 15 (by omega)
  have hz15 := h.out.frozen (290 + c * 16 + 15)
  obtain ⟨ao, cp, hrv⟩ := Slc.len hr.out
  have HS : Hid (RS w own b x (w.setCells b (T c) (tkC16 a rv).toList) (settle r c a)) := h.out.settled hc a rv hr.out hg.out
  rw [hrv] at HS ⊢
  clear hrv hex hr hg
  unfold ansV
  go_enter Tryz.func113, Tryz.ntmps113
  go_wp2_with fail
  go_region
  all_goals
    change bodyPost Tryz.prog Tryz.f113 (fun e w' => e = Ending.returned (Value.tuple #[]) ∧ Hid (RS w own b x w' (settle r c a))) Exit.normal _ _
    refine bodyPost_end (results_none rfl _ _ _) rfl ⟨rfl, ?_⟩
    have := HS.out
    rw [← T_addr] at this
    exact RS.then this (bl1 _ _).drew
theorem StoR.cells {w : World} {own : Nat → Nat} {x : Nat} {s : Sto} (h : StoR w own x s) (j : Nat) (a : Ans) (hj : s.kept[j]? = some a) : ∃ rv, w.cell? ⟨x, 435 + j * 5, none⟩ = some (.string a.f) ∧ w.cell? ⟨x, 435 + j * 5 + 1, none⟩ = some rv ∧ w.cell? ⟨x, 435 + j * 5 + 2, none⟩ = some (.int .i64 a.v.k) ∧ w.cell? ⟨x, 435 + j * 5 + 3, none⟩ = some (.int .i64 a.v.n) ∧ w.cell? ⟨x, 435 + j * 5 + 4, none⟩ = some (.string a.v.s) := by
  have ha := h.kept j a hj
  obtain ⟨rv, h1, _⟩ := ha.rs
  exact ⟨rv, ha.f, h1, ha.k, ha.n, ha.s⟩
theorem only_set (x : Nat) (w : World) (j : Nat) (v : Value) : Only x w (w.setCell ⟨x, j, none⟩ v) := ⟨rfl, rfl, rfl, by simp [World.setCell], fun k _ hk => Below.heap_setCell _ _ _ _ hk⟩
theorem add_close {w : World} {own : Nat → Nat} {x : Nat} {s : Sto} {a : Ans} {rv : Value} {xcs : Array Value} (h : StoR w own x s) (hsw : SW s) (hp : s.places ≠ 0) (hx : w.heap[x]? = some (.cells xcs 104 (0, 0))) (hxs : xcs.size = 755) (hr : RdSl w rv a.rs) (hg : ∀ g, rv.ownBlock = some g → own g = 0) (q1 q2 : Int) (h1 : q1 = ((s.next + 1) % s.places : Nat)) (h2 : q2 = (min (s.size + 1) s.places : Nat)) :
    StoR ((((((((w.setCell ⟨x, 435 + s.next * 5, none⟩ (.string a.f)).setCell ⟨x, 435 + s.next * 5 + 1, none⟩ rv).setCell ⟨x, 435 + s.next * 5 + 2, none⟩ (.int .i64 a.v.k)).setCell ⟨x, 435 + s.next * 5 + 3, none⟩ (.int .i64 a.v.n)).setCell ⟨x, 435 + s.next * 5 + 4, none⟩ (.string a.v.s)).setCell ⟨x, 434, none⟩ (.int .i64 q1)).setCell ⟨x, 433, none⟩ (.int .i64 q2))) own x (s.add a) ∧
    Only x w ((((((((w.setCell ⟨x, 435 + s.next * 5, none⟩ (.string a.f)).setCell ⟨x, 435 + s.next * 5 + 1, none⟩ rv).setCell ⟨x, 435 + s.next * 5 + 2, none⟩ (.int .i64 a.v.k)).setCell ⟨x, 435 + s.next * 5 + 3, none⟩ (.int .i64 a.v.n)).setCell ⟨x, 435 + s.next * 5 + 4, none⟩ (.string a.v.s)).setCell ⟨x, 434, none⟩ (.int .i64 q1)).setCell ⟨x, 433, none⟩ (.int .i64 q2))) ∧
    (∃ cs, ((((((((w.setCell ⟨x, 435 + s.next * 5, none⟩ (.string a.f)).setCell ⟨x, 435 + s.next * 5 + 1, none⟩ rv).setCell ⟨x, 435 + s.next * 5 + 2, none⟩ (.int .i64 a.v.k)).setCell ⟨x, 435 + s.next * 5 + 3, none⟩ (.int .i64 a.v.n)).setCell ⟨x, 435 + s.next * 5 + 4, none⟩ (.string a.v.s)).setCell ⟨x, 434, none⟩ (.int .i64 q1)).setCell ⟨x, 433, none⟩ (.int .i64 q2))).heap[x]? = some (.cells cs 104 (0, 0)) ∧ cs.size = 755 ∧ ∀ j, j < 432 ∨ 755 ≤ j → cs[j]? = xcs[j]?) := by
  have hnx := hsw.next hp
  have hpl := hsw.places
  have b1 := rset (k := 435 + s.next * 5) (u := .string a.f) hx
  have b2 := rset (k := 435 + s.next * 5 + 1) (u := rv) b1
  have b3 := rset (k := 435 + s.next * 5 + 2) (u := .int .i64 a.v.k) b2
  have b4 := rset (k := 435 + s.next * 5 + 3) (u := .int .i64 a.v.n) b3
  have b5 := rset (k := 435 + s.next * 5 + 4) (u := .string a.v.s) b4
  have b6 := rset (k := 434) (u := .int .i64 q1) b5
  have b7 := rset (k := 433) (u := .int .i64 q2) b6
  generalize hW : (((((((w.setCell ⟨x, 435 + s.next * 5, none⟩ (.string a.f)).setCell ⟨x, 435 + s.next * 5 + 1, none⟩ rv).setCell ⟨x, 435 + s.next * 5 + 2, none⟩ (.int .i64 a.v.k)).setCell ⟨x, 435 + s.next * 5 + 3, none⟩ (.int .i64 a.v.n)).setCell ⟨x, 435 + s.next * 5 + 4, none⟩ (.string a.v.s)).setCell ⟨x, 434, none⟩ (.int .i64 q1)).setCell ⟨x, 433, none⟩ (.int .i64 q2)) = W at *
  have ho : Only x w W := by
    rw [← hW]
    exact ((((((only_set _ _ _ _).trans (only_set _ _ _ _)).trans (only_set _ _ _ _)).trans (only_set _ _ _ _)).trans (only_set _ _ _ _)).trans (only_set _ _ _ _)).trans (only_set _ _ _ _)
  have gW : ∀ j, W.cell? ⟨x, j, none⟩ = _ := fun j => cell_of_row W x j _ 104 (0, 0) b7
  have g0 : ∀ j, w.cell? ⟨x, j, none⟩ = xcs[j]? := fun j => cell_of_row w x j _ 104 (0, 0) hx
  have off : ∀ j, j ≠ 433 → j ≠ 434 → (j < 435 + s.next * 5 ∨ 435 + s.next * 5 + 5 ≤ j) → W.cell? ⟨x, j, none⟩ = w.cell? ⟨x, j, none⟩ := fun j n1 n2 n3 => by
    rw [gW, g0, Array.getElem?_setIfInBounds_ne (by omega), Array.getElem?_setIfInBounds_ne (by omega), Array.getElem?_setIfInBounds_ne (by omega), Array.getElem?_setIfInBounds_ne (by omega), Array.getElem?_setIfInBounds_ne (by omega), Array.getElem?_setIfInBounds_ne (by omega), Array.getElem?_setIfInBounds_ne (by omega)]
  have hxr : ∀ cur, w.heap[x]? ≠ some (.cells cur 274 (0, 0)) := fun cur e => by rw [hx] at e; cases e
  refine ⟨?_, ho, ⟨_, b7, by simp only [Array.size_setIfInBounds]; exact hxs, fun j hj => ?_⟩⟩
  · have eadd : s.add a = ⟨s.places, min (s.size + 1) s.places, (s.next + 1) % s.places, s.kept.set s.next a⟩ := by unfold Sto.add; rw [if_neg hp]
    rw [eadd]
    refine { places := by rw [off 432 (by omega) (by omega) (by omega)]; exact h.places, size := ?_, next := ?_, len := by simp [h.len], kept := fun j a' hj => ?_ }
    · rw [gW, Array.getElem?_setIfInBounds_self_of_lt (by simp only [Array.size_setIfInBounds]; omega), h2]
    · rw [gW, Array.getElem?_setIfInBounds_ne (by omega), Array.getElem?_setIfInBounds_self_of_lt (by simp only [Array.size_setIfInBounds]; omega), h1]
    · by_cases hjn : j = s.next
      · subst hjn
        have hj' : (s.kept.set s.next a)[s.next]? = some a' := hj
        rw [List.getElem?_set_self (by rw [h.len]; omega)] at hj'
        cases hj'
        refine { f := ?_, rs := ⟨rv, ?_, hr.kept fun g hgg => ho.block g (hr.lt g hgg) (fun e => ?_), hg⟩, k := ?_, n := ?_, s := ?_ }
        · rw [gW, Array.getElem?_setIfInBounds_ne (by omega), Array.getElem?_setIfInBounds_ne (by omega), Array.getElem?_setIfInBounds_ne (by omega), Array.getElem?_setIfInBounds_ne (by omega), Array.getElem?_setIfInBounds_ne (by omega), Array.getElem?_setIfInBounds_ne (by omega), Array.getElem?_setIfInBounds_self_of_lt (by omega)]
        · rw [gW, Array.getElem?_setIfInBounds_ne (by omega), Array.getElem?_setIfInBounds_ne (by omega), Array.getElem?_setIfInBounds_ne (by omega), Array.getElem?_setIfInBounds_ne (by omega), Array.getElem?_setIfInBounds_ne (by omega), Array.getElem?_setIfInBounds_self_of_lt (by simp only [Array.size_setIfInBounds]; omega)]
        · rcases hr.2 with ⟨rfl, _⟩ | ⟨g', o, cap, cur, rfl, hgb, _⟩
          · cases hgg
          · cases hgg
            exact hxr cur ((show g' = x from e) ▸ hgb)
        · rw [gW, Array.getElem?_setIfInBounds_ne (by omega), Array.getElem?_setIfInBounds_ne (by omega), Array.getElem?_setIfInBounds_ne (by omega), Array.getElem?_setIfInBounds_ne (by omega), Array.getElem?_setIfInBounds_self_of_lt (by simp only [Array.size_setIfInBounds]; omega)]
        · rw [gW, Array.getElem?_setIfInBounds_ne (by omega), Array.getElem?_setIfInBounds_ne (by omega), Array.getElem?_setIfInBounds_ne (by omega), Array.getElem?_setIfInBounds_self_of_lt (by simp only [Array.size_setIfInBounds]; omega)]
        · rw [gW, Array.getElem?_setIfInBounds_ne (by omega), Array.getElem?_setIfInBounds_ne (by omega), Array.getElem?_setIfInBounds_self_of_lt (by simp only [Array.size_setIfInBounds]; omega)]
      · have hj' : (s.kept.set s.next a)[j]? = some a' := hj
        rw [List.getElem?_set_ne (fun e => hjn e.symm)] at hj'
        refine (h.kept j a' hj').kept (fun t ht => off _ (by omega) (by omega) (by omega)) fun g cur hgb hq => ⟨ho.block g (Array.getElem?_eq_some_iff.1 hgb).1 (fun e => hxr cur (e ▸ hgb)), hq⟩
  · have := off j (by omega) (by omega) (by omega)
    rw [gW, g0] at this
    exact this
end Go.Proofs.YtlpmmmmniojflaaGreatDoor
/- A working out, walked: the store takes an answer in. -/
set_option linter.unusedVariables false
set_option linter.unusedSimpArgs false
namespace Go.Proofs.YtlpmmmmniojflaaGreatDoor
open Go.RowKit
def RES (w : World) (own : Nat → Nat) (b x c : Nat) (w' : World) (r' : Rn) : Prop := ∃ own', RE w' own' b x r' c ∧ RStep w own w' own' b x ∧ (∀ k, k < w.heap.size → own' k = own k) ∧ ∀ k, k < w.heap.size → k ≠ x → w'.heap[k]? = w.heap[k]?
set_option maxRecDepth 100000 in
set_option maxHeartbeats 4000000 in
theorem add_none (w : World) (own : Nat → Nat) (b x c : Nat) (r : Rn) (a : Ans) (rv : Value) (hc : c < 48) (h : Hid (RE w own b x r c)) (hp : r.store.places = 0) (hr : Hid (RdSl w rv a.rs)) :
    Calls Tryz.prog 181 #[.pointer (some ⟨x, 432, none⟩), ansV a rv] w fun e w' => e = .returned (.tuple #[]) ∧ Hid (RES w own b x c w' { r with store := r.store.add a }) := by
  have p0 := h.out.sto.places
  rw [hp] at p0
  have p0' := al p0
  obtain ⟨ao, cp, hrv⟩ := Slc.len hr.out
  have HA : Hid (r.store.add a = r.store) := by unfold Hid Sto.add; rw [if_pos hp]
  rw [hrv]
  clear hrv hr hp
  unfold ansV
  go_enter Tryz.func181, Tryz.ntmps181
  go_wp2_with fail
  refine bodyPost_ret (results_none rfl _ _ _) rfl ?_
  rw [HA.out]
  obtain ⟨h1, h2⟩ := h.out.below (own' := own) hc (bl1 _ _) (fun _ _ => rfl)
  exact ⟨rfl, own, h1, h2, fun _ _ => rfl, fun k hk _ => (bl1 w _).block k hk⟩
set_option maxRecDepth 100000 in
set_option maxHeartbeats 8000000 in
theorem add_some (w : World) (own : Nat → Nat) (b x c : Nat) (r : Rn) (a : Ans) (rv : Value) (hc : c < 48) (h : Hid (RE w own b x r c)) (hsw : Hid (SW r.store)) (hp : r.store.places ≠ 0) (hr : Hid (RdSl w rv a.rs)) (hg : Hid (∀ g, rv.ownBlock = some g → own g = 0)) :
    Calls Tryz.prog 181 #[.pointer (some ⟨x, 432, none⟩), ansV a rv] w fun e w' => e = .returned (.tuple #[]) ∧ Hid (RES w own b x c w' { r with store := r.store.add a }) := by
  have p0 := h.out.sto.places
  have p1 := h.out.sto.size
  have p2 := h.out.sto.next
  have hnx := hsw.out.next hp
  have hpl := hsw.out.places
  have hsz := hsw.out.size
  obtain ⟨xcs, hx, hxs⟩ := h.out.xblk
  have hxl := h.out.xlt
  have n1 : x ≠ w.heap.size := by omega
  have n2 : w.heap.size ≠ x := by omega
  obtain ⟨a0, ha0⟩ : ∃ a0, r.store.kept[r.store.next]? = some a0 := ⟨_, List.getElem?_eq_getElem (by rw [h.out.sto.len]; omega)⟩
  obtain ⟨rv0, k0, k1, k2, k3, k4⟩ := h.out.sto.cells _ _ ha0
  have fz : ∀ j, w.frozen? ⟨x, j, none⟩ = false := fun j => by simp [World.frozen?, hx]
  have f0 := fz (435 + r.store.next * 5)
  have f1 := fz (435 + r.store.next * 5 + 1)
  have f2 := fz (435 + r.store.next * 5 + 2)
  have f3 := fz (435 + r.store.next * 5 + 3)
  have f4 := fz (435 + r.store.next * 5 + 4)
  have f5 := fz 434
  have f6 := fz 433
  obtain ⟨ao, cp, hrv⟩ := Slc.len hr.out
  have HAD : Hid _ := fun q1 q2 h1 h2 => add_close (a := a) (rv := rv) h.out.sto hsw.out hp hx hxs hr.out hg.out q1 q2 h1 h2
  have HXS : Hid (∀ j, w.cell? ⟨x, j, none⟩ = xcs[j]?) := fun j => cell_of_row w x j xcs 104 (0, 0) hx
  rw [hrv] at HAD ⊢
  have bp : ((r.store.places : Int) == 0) = false := by simpa using hp
  have bp2 : ¬ (r.store.places : Int) = 0 := by omega
  have hn64 : (r.store.next : Int) < 64 := by omega
  have hn0 : 0 ≤ (r.store.next : Int) := by omega
  have w1' : wrap64 ((r.store.next : Int) + 1) = (r.store.next : Int) + 1 := by unfold wrap64; omega
  have w2' : IntKind.i64.wrap ((r.store.next : Int) + 1) = (r.store.next : Int) + 1 := by rw [IntKind.wrap_i64]; omega
  have w3' : wrap64 ((r.store.size : Int) + 1) = (r.store.size : Int) + 1 := by unfold wrap64; omega
  have w4' : IntKind.i64.wrap ((r.store.size : Int) + 1) = (r.store.size : Int) + 1 := by rw [IntKind.wrap_i64]; omega
  clear hrv hr hg hx hxs ha0 fz hpl hnx hsz
  unfold ansV
  go_enter Tryz.func181, Tryz.ntmps181
  go_wp2_with fail
  go_region
  all_goals
    go_wp2_with fail
    go_region
  all_goals
    go_wp2_with fail
    go_region
  all_goals
    change bodyPost Tryz.prog Tryz.f181 (fun e w' => e = Ending.returned (Value.tuple #[]) ∧ Hid (RES w own b x c w' { r with store := r.store.add a })) Exit.normal _ _
    refine bodyPost_end (results_none rfl _ _ _) rfl ⟨rfl, ?_⟩
    obtain ⟨hS, hO, cs, hbk, hbs, hbo⟩ := HAD.out (((r.store.next : Int) + 1) % r.store.places) (min ((r.store.size : Int) + 1) r.store.places) (by simp) (by omega)
    obtain ⟨r1, s1⟩ := h.out.stored hS hO (fun j hj => by rw [cell_of_row _ x j cs 104 (0, 0) hbk, HXS.out j]; exact hbo j hj) ⟨cs, hbk, hbs⟩
    obtain ⟨r2, s2⟩ := r1.below (own' := own) hc (((bl1 _ _).drew).drew.drew) (fun _ _ => rfl)
    exact ⟨own, r2, s1.trans s2, fun _ _ => rfl, fun k hk hkx => ((((bl1 _ _).drew).drew.drew).block k (Nat.lt_of_lt_of_le hk hO.size)).trans (hO.block k hk hkx)⟩
theorem addS_w (w : World) (own : Nat → Nat) (b x c : Nat) (r : Rn) (a : Ans) (rv : Value) (hc : c < 48) (h : RE w own b x r c) (hsw : SW r.store) (hr : RdSl w rv a.rs) (hg : ∀ g, rv.ownBlock = some g → own g = 0) :
    Calls Tryz.prog 181 #[.pointer (some ⟨x, 432, none⟩), ansV a rv] w fun e w' => e = .returned (.tuple #[]) ∧ Hid (RES w own b x c w' { r with store := r.store.add a }) := by
  by_cases hp : r.store.places = 0
  · exact add_none w own b x c r a rv hc h hp hr
  · exact add_some w own b x c r a rv hc h hsw hp hr hg
end Go.Proofs.YtlpmmmmniojflaaGreatDoor
/- A working out: a cell that is begun, by its parts. -/
set_option linter.unusedVariables false
set_option linter.unusedSimpArgs false
namespace Go.Proofs.YtlpmmmmniojflaaGreatDoor
open Go.RowKit
structure RunC (w : World) (own : Nat → Nat) (b c : Nat) (wt : Int) (kn : List Ans) (held : Nat) (an : Ans) (m : Mc) (mst : Nat) (nd : Nd) : Prop where
  st : w.cell? ⟨b, T c, none⟩ = some (.int .i64 2)
  wt : w.cell? ⟨b, T c + 1, none⟩ = some (.int .i64 wt)
  kn : KN w own b (T c + 2) (cK c) kn
  held : w.cell? ⟨b, T c + 3, none⟩ = some (.int .i64 held)
  mr : MR w own b (T c + 4) (cV c) (cG c) m mst nd
  mi : MI m
  ans : AnsAt w b (T c + 11) an (fun g => own g = cR c ∧ g ≠ b)
section
variable {w w' : World} {own own' : Nat → Nat} {b x c : Nat} {r : Rn} {m m' : Mc} {mst st' : Nat} {nd nd' : Nd} {wt : Int} {kn : List Ans} {held : Nat} {an : Ans}
theorem RR.runC (h : RR w own b x r) (hc : c < 48) (hs : (r.tk c).st = 2) : ∃ m mst nd, RunC w own b c (r.tk c).wt (r.tk c).kn (r.tk c).held (r.tk c).an m mst nd ∧ MW m mst nd (r.tk c).d := by
  have ht := h.tk c hc
  obtain ⟨m, mst, nd, h1, h2, h3, h4⟩ := ht.run hs
  refine ⟨m, mst, nd, { st := by have := ht.st; rw [hs] at this; exact this, wt := ht.wt, kn := ht.kn, held := ht.held, mr := h1, mi := h2, ans := h4 }, h3⟩
theorem RunC.tr {d : Beh} (h : RunC w own b c wt kn held an m mst nd) (hm : MW m mst nd d) : TR w own b c ⟨2, wt, kn, held, d, an⟩ :=
  { st := h.st, wt := h.wt, kn := h.kn, held := h.held, run := fun _ => ⟨m, mst, nd, h.mr, h.mi, hm, h.ans⟩, ans := fun e => (by cases e), mz := fun e => by cases e }
theorem RE.back (h : RE w own b x r c) (hc : c < 48) {t : Tsk} (ht : TR w own b c t) : RR w own b x (r.put c t) :=
  (h.task hc (Chg.refl _ _ _ _ _ _) (fun _ _ _ => rfl) ht).1
theorem mC_cC {c col : Nat} (h : mC (cV c) (cG c) col) : cC c col := by rcases h with h | h; exact .inr (.inl h); exact .inr (.inr (.inl h))
theorem RunC.machine (h : RunC w own b c wt kn held an m mst nd) {cs : Array Value} (hb : w.heap[b]? = some (.cells cs 187 (0, 0))) (ho : ∀ k, k < w.heap.size → own' k = own k) (g : Chg own (mC (cV c) (cG c)) b (T c + 4) (T c + 4 + 7) w w') (hm : MR w' own' b (T c + 4) (cV c) (cG c) m' st' nd') (hi : MI m') : RunC w' own' b c wt kn held an m' st' nd' := by
  have hk : ∀ k, k < w.heap.size → own k ≠ cV c → own k ≠ cG c → k ≠ b → w'.heap[k]? = w.heap[k]? := fun k hk h1 h2 hkb => g.blk k hk hkb (by rintro (e | e); exact h1 e; exact h2 e)
  refine { st := by rw [g.cell hb (by omega)]; exact h.st, wt := by rw [g.cell hb (by omega)]; exact h.wt, kn := ?_, held := by rw [g.cell hb (by omega)]; exact h.held, mr := hm, mi := hi, ans := ?_ }
  · obtain ⟨v, xs, h1, h2, h3⟩ := h.kn
    refine ⟨v, xs, by rw [g.cell hb (by omega)]; exact h1, h2.move fun k hl e hkb => ⟨hk k hl (by rw [e]; unfold cK cV; omega) (by rw [e]; unfold cK cG; omega) hkb, by rw [ho k hl]; exact e⟩, AL.keptB hb (fun k hl h0 hkb => ⟨hk k hl (by rw [h0]; unfold cV; omega) (by rw [h0]; unfold cG; omega) hkb, by rw [ho k hl]; exact h0⟩) _ _ h3⟩
  · refine h.ans.kept (fun t ht => g.cell hb (by omega)) fun gg cur hg hq => ?_
    have hl := (Array.getElem?_eq_some_iff.1 hg).1
    exact ⟨hk gg hl (by rw [hq.1]; unfold cR cV; omega) (by rw [hq.1]; unfold cR cG; omega) hq.2, by rw [ho gg hl]; exact hq.1, hq.2⟩
theorem RunC.mstep (h : RunC w own b c wt kn held an m mst nd) {cs : Array Value} (hb : w.heap[b]? = some (.cells cs 187 (0, 0))) (hM : MStep w own b (T c + 4) (cV c) (cG c) w' m' st' nd') (hi : MI m') : ∃ own', (∀ k, k < w.heap.size → own' k = own k) ∧ RunC w' own' b c wt kn held an m' st' nd' ∧ Chg own (cC c) b (T c) (T c + 16) w w' := by
  obtain ⟨o1, e1, m1, c1⟩ := hM
  exact ⟨o1, e1, h.machine hb e1 c1 m1 hi, c1.mono (fun _ h => mC_cC h) (by omega) (by omega)⟩
theorem RunC.below (h : RunC w own b c wt kn held an m mst nd) {cs : Array Value} (hb : w.heap[b]? = some (.cells cs 187 (0, 0))) (hB : Below w.heap.size w w') (ho : ∀ k, k < w.heap.size → own' k = own k) : RunC w' own' b c wt kn held an m mst nd :=
  h.machine hb ho (Chg.below hB (Array.getElem?_eq_some_iff.1 hb).1) (h.mr.below hB ho) h.mi
theorem RunC.reads (h : RunC w own b c wt kn held an m mst nd) {cs : Array Value} (hb : w.heap[b]? = some (.cells cs 187 (0, 0))) (hsz : cs.size = 1059) (hc : c < 48) (ho : ∀ k, k < w.heap.size → own' k = own k) (g : Chg own (fun k => k = cR c) b (T c + 12) (T c + 13) w w') {v1 : Value} {rs : List Rd} (hv : w'.cell? ⟨b, T c + 12, none⟩ = some v1) (hs : SlC w' own' b (cR c) 274 5 v1 rs.length (rs.flatMap rdC)) : RunC w' own' b c wt kn held { an with rs := rs } m mst nd := by
  have hk : ∀ k, k < w.heap.size → own k ≠ cR c → k ≠ b → w'.heap[k]? = w.heap[k]? := fun k hk h1 hkb => g.blk k hk hkb h1
  obtain ⟨cs', hb', hs', _⟩ := g.row cs 187 hb
  refine { st := by rw [g.cell hb (by omega)]; exact h.st, wt := by rw [g.cell hb (by omega)]; exact h.wt, kn := ?_, held := by rw [g.cell hb (by omega)]; exact h.held, mr := ?_, mi := h.mi, ans := ?_ }
  · obtain ⟨v, xs, h1, h2, h3⟩ := h.kn
    refine ⟨v, xs, by rw [g.cell hb (by omega)]; exact h1, h2.move fun k hl e hkb => ⟨hk k hl (by rw [e]; unfold cK cR; omega) hkb, by rw [ho k hl]; exact e⟩, AL.keptB hb (fun k hl h0 hkb => ⟨hk k hl (by rw [h0]; unfold cR; omega) hkb, by rw [ho k hl]; exact h0⟩) _ _ h3⟩
  · refine h.mr.move ⟨cs', 187, hb', by unfold T; omega⟩ (fun t ht => g.cell hb (by omega)) fun k hl e hkb => ⟨hk k hl ?_ hkb, ho k hl⟩
    rcases e with e | e | e
    · rw [e]; unfold cR; omega
    · rw [e]; unfold cV cR; omega
    · rw [e]; unfold cG cR; omega
  · exact { f := by rw [g.cell hb (by omega)]; exact h.ans.f, rs := ⟨v1, hv, hs.sl, fun gg hgg => hs.col gg hgg⟩, k := by rw [g.cell hb (by omega)]; exact h.ans.k, n := by rw [g.cell hb (by omega)]; exact h.ans.n, s := by rw [g.cell hb (by omega)]; exact h.ans.s }
end
set_option maxRecDepth 100000 in
set_option maxHeartbeats 2000000 in
theorem run_idle (w : World) (own : Nat → Nat) (b o cv cg : Nat) (m : Mc) (nd : Nd) (hM : Hid (MR w own b o cv cg m 1 nd)) :
    Calls Tryz.prog 175 #[.pointer (some ⟨b, o, none⟩)] w fun e w' => e = .returned (.int .i64 1) ∧ w' = w := by
  have h1 := hM.out.st
  go_enter Tryz.func175, Tryz.ntmps175
  go_wp2_with fail
  refine wp_scope_at 0 0 (fun n l a w' => l = 0 ∧ w' = w ∧ a.tmps.size = 50 ∧ a.tmps.toList.getD 0 undef = .pointer (some ⟨b, o, none⟩) ∧ a.defers = []) ⟨rfl, rfl, rfl, rfl, rfl⟩ ?_ (fun n l a w hl hJ => absurd hJ.1 hl)
  rintro n a w1 ⟨_, rfl, hsz, hp, hd⟩
  obtain ⟨u, hu0, ha⟩ : ∃ u : Nat → Value, u 0 = .pointer (some ⟨b, o, none⟩) ∧ a = ⟨#[u 0, u 1, u 2, u 3, u 4, u 5, u 6, u 7, u 8, u 9, u 10, u 11, u 12, u 13, u 14, u 15, u 16, u 17, u 18, u 19, u 20, u 21, u 22, u 23, u 24, u 25, u 26, u 27, u 28, u 29, u 30, u 31, u 32, u 33, u 34, u 35, u 36, u 37, u 38, u 39, u 40, u 41, u 42, u 43, u 44, u 45, u 46, u 47, u 48, u 49], []⟩ :=
    ⟨fun i => a.tmps.toList.getD i undef, hp, tmps_of hsz hd⟩
  rw [ha, hu0]
  clear ha hu0 hsz hp hd
  go_wp2_with fail
  rw [jumps_ret]
  go_ret
  exact ⟨rfl, rfl⟩
end Go.Proofs.YtlpmmmmniojflaaGreatDoor
/- Plain mathematics: how many cells a formula reads at most. -/
set_option linter.unusedVariables false
set_option linter.unusedSimpArgs false
namespace Go.Proofs.YtlpmmmmniojflaaGreatDoor
theorem actN_le {n m : Nat} {d : Beh} (h : ActN n d) (hm : n ≤ m) : ActN m d := by
  induction hm with
  | refl => exact h
  | step _ ih => exact actN_succ _ _ ih
theorem Runs.of_act : ∀ (k n : Nat) (m : Mc) (d : Beh), Runs n m d → ActN k d → Runs k m d
  | 0, n, m, d, h, ⟨v, h1, h2⟩ => by
    cases n with
    | zero => exact h
    | succ n =>
      rcases h with h | ⟨f, m', nd, _, _, h3, _⟩
      · exact h
      · rw [h2] at h3; cases h3
  | k + 1, n, m, d, h, ha => by
    cases n with
    | zero => exact .inl h
    | succ n =>
      rcases h with h | ⟨f, m', nd, g1, g2, g3, g4⟩
      · exact .inl h
      · obtain ⟨_, k', e, hk⟩ := ha.next g3
        cases e
        exact .inr ⟨f, m', nd, g1, g2, g3, fun x hx => Runs.of_act k n _ _ (g4 x hx) (hk x hx)⟩
def BA (n : Nat) (d : Beh) : Prop := ∀ (m : Nat) (k : V → Beh), (∀ v, OKV v → ActN m (k v)) → ActN (n + m) (bindA d k)
theorem ba_ret {v : V} (hv : OKV v) (n : Nat) : BA n (retA v) := fun m k hk => by rw [bind_ret]; exact actN_le (hk v hv) (by omega)
theorem BA.le {n m : Nat} {d : Beh} (h : BA n d) (hm : n ≤ m) : BA m d := fun j k hk => actN_le (h j k hk) (by omega)
theorem ba_read {nd : Nd} (hc : nd.c < 48) {n : Nat} (hn : 1 ≤ n) : BA n (readA nd) := fun m k hk => by
  unfold readA
  rw [bind_ask]
  simp only [bind_ret]
  refine actN_le (n := m + 1) (.inr ⟨nd, hc, rfl, fun x hx => hk x hx⟩) (by omega)
theorem ba_bindE {n n2 : Nat} {d : Beh} {g : V → Beh} (h : BA n d) (hg : ∀ v, OKV v → BA n2 (g v)) : BA (n + n2) (bindE d g) := fun m k hk => by
  unfold bindE
  rw [bind_assoc, Nat.add_assoc]
  refine h (n2 + m) _ fun v hv => ?_
  split
  · rw [bind_ret]; exact actN_le (hk v hv) (by omega)
  · exact hg v hv m k hk
theorem ba_bin {n n2 op : Nat} {d e : Beh} (h : BA n d) (he : BA n2 e) : BA (n + (n2 + 1)) (binA op d e) :=
  ba_bindE h fun v _ => (ba_bindE (n2 := 0) he fun u _ => ba_ret (ok_comb _ _ _) 0).le (by omega)
theorem ba_neg {n : Nat} {d : Beh} (h : BA n d) : BA (n + 1) (negA d) := ba_bindE h fun v _ => ba_ret (ok_neg _) 1
theorem ba_if {n n2 n3 : Nat} {d e f : Beh} (h : BA n d) (he : BA n2 e) (hf : BA n3 f) : BA (n + (n2 + n3)) (ifA d e f) := ba_bindE h fun v _ => by
  split
  · exact ba_ret ok_e4 _
  · split
    · exact hf.le (by omega)
    · exact he.le (by omega)
theorem ba_at {n : Nat} {d : Beh} (h : BA n d) : BA (n + 1) (atA d) := ba_bindE h fun v _ => by
  unfold atV
  split
  · exact ba_ret ok_e4 _
  · split
    · exact ba_ret ok_e3 _
    · rename_i c hc; exact ba_read (cellN_lt hc) (Nat.le_refl _)
theorem ba_bad {n : Nat} {d : Beh} (h : BA n d) : BA n (badA' d) := fun m k hk => by
  unfold badA'
  rw [bind_assoc]
  refine h m _ fun v hv => ?_
  rw [bind_ret]; exact hk _ (ok_b _)
theorem ba_sum : ∀ (l : List Nat) (v : V), (∀ c ∈ l, c < 48) → OKV v → BA l.length (sumA l v)
  | [], v, _, hv => ba_ret hv _
  | c :: l, v, hl, hv => by
    show BA (l.length + 1) (bindE (readA ⟨c, false⟩) _)
    refine (ba_bindE (n2 := l.length) (ba_read (n := 1) (hl c List.mem_cons_self) (Nat.le_refl _)) fun x _ => ?_).le (by omega)
    refine (ba_bindE (n := 0) (n2 := l.length) (ba_ret (ok_add _ _) 0) fun u hu => ba_sum l u (fun c hc => hl c (List.mem_cons_of_mem _ hc)) hu).le (by omega)
theorem ba_cnt : ∀ (l : List Nat) (v : V), (∀ c ∈ l, c < 48) → OKV v → BA l.length (cntA l v)
  | [], v, _, hv => ba_ret hv _
  | c :: l, v, hl, hv => by
    show BA (l.length + 1) (bindE (readA ⟨c, true⟩) _)
    refine (ba_bindE (n2 := l.length) (ba_read (n := 1) (hl c List.mem_cons_self) (Nat.le_refl _)) fun x _ => ?_).le (by omega)
    refine (ba_bindE (n := 0) (n2 := l.length) (ba_ret (by split; exact ok_add _ _; exact hv) 0) fun u hu => ba_cnt l u (fun c hc => hl c (List.mem_cons_of_mem _ hc)) hu).le (by omega)
theorem cmp_ba : ∀ (f tag off : Nat) (s : List Ins) (d : Beh) (ts : List Tk) (seg : List Ins) (d' : Beh) (rest : List Tk), tag < 7 → cmp f tag off s d ts = some (seg, d', rest) → (3 < tag → BA s.length d) → BA seg.length d'
  | 0, _, _, _, _, _, _, _, _, _, h, _ => by simp [cmp] at h
  | f + 1, tag, off, s, d, ts, seg, d', rest, htag, h, hp => by
    have ih := cmp_ba f
    rw [cmp] at h
    by_cases h3 : tag < 3
    · rw [if_pos h3] at h
      obtain ⟨⟨s1, d1, r1⟩, hx, h⟩ := bind_some h
      exact ih (tag + 4) off s1 d1 r1 seg d' rest (by omega) h (fun _ => ih (tag + 1) off [] _ ts s1 d1 r1 (by omega) hx (fun e => absurd e (by omega)))
    rw [if_neg h3] at h
    by_cases t3 : tag = 3
    · rw [if_pos t3] at h
      by_cases k23 : hk ts = 23
      · rw [if_pos k23] at h
        obtain ⟨⟨s1, d1, r1⟩, hx, h⟩ := bind_some h
        cases h
        have := ih 3 off [] _ _ s1 d1 r1 (by omega) hx (fun e => absurd e (by omega))
        simp only [List.length_append, List.length_singleton]
        exact ba_neg this
      rw [if_neg k23] at h
      by_cases k1 : hk ts = 1
      · rw [if_pos k1] at h
        split at h
        · rename_i hv; cases h; exact ba_ret (ok_i (by unfold I64; omega)) _
        · cases h
      rw [if_neg k1] at h
      by_cases k2 : hk ts = 2
      · rw [if_pos k2] at h
        split at h
        · rename_i hv; cases h; exact ba_ret (ok_t (by simp only [ByteArray.size, List.size_toArray, List.length_dropLast, List.length_drop]; omega)) _
        · cases h
      rw [if_neg k2] at h
      by_cases k3 : hk ts = 3 ∨ hk ts = 4
      · rw [if_pos k3] at h
        cases h
        exact ba_ret (ok_b _) _
      rw [if_neg k3] at h
      by_cases k5 : hk ts = 5
      · rw [if_pos k5] at h
        obtain ⟨c, hc, h⟩ := bind_some h
        cases h
        exact ba_read (cellN_lt hc) (Nat.le_refl _)
      rw [if_neg k5] at h
      by_cases k12 : hk ts = 12
      · rw [if_pos k12] at h
        obtain ⟨⟨s1, d1, r1⟩, hx, h⟩ := bind_some h
        cases h
        exact ih 0 off [] _ _ _ _ r1 (by omega) hx (fun e => absurd e (by omega))
      rw [if_neg k12] at h
      by_cases k6 : hk ts = 6
      · rw [if_pos k6] at h
        obtain ⟨⟨s1, d1, r1⟩, hx, h⟩ := bind_some h
        obtain ⟨⟨s2, d2, r2⟩, hy, h⟩ := bind_some h
        obtain ⟨⟨s3, d3, r3⟩, hz, h⟩ := bind_some h
        cases h
        have a1 := ih 0 off [] _ _ s1 d1 r1 (by omega) hx (fun e => absurd e (by omega))
        have a2 := ih 0 _ [] _ _ s2 d2 r2 (by omega) hy (fun e => absurd e (by omega))
        have a3 := ih 0 _ [] _ _ s3 d3 r3 (by omega) hz (fun e => absurd e (by omega))
        refine (ba_if a1 a2 a3).le ?_
        simp only [List.length_append, List.length_cons]; omega
      rw [if_neg k6] at h
      by_cases k7 : hk ts = 7
      · rw [if_pos k7] at h
        obtain ⟨⟨s1, d1, r1⟩, hx, h⟩ := bind_some h
        cases h
        have := ih 0 off [] _ _ s1 d1 r1 (by omega) hx (fun e => absurd e (by omega))
        simp only [List.length_append, List.length_singleton]
        exact ba_at this
      rw [if_neg k7] at h
      by_cases k8 : hk ts = 8
      · rw [if_pos k8] at h
        obtain ⟨⟨s1, d1, r1⟩, hx, h⟩ := bind_some h
        cases h
        have := ih 0 (off + 1) [] _ _ s1 d1 r1 (by omega) hx (fun e => absurd e (by omega))
        refine (ba_bad this).le ?_
        simp only [List.length_append, List.length_cons, List.length_nil]; omega
      rw [if_neg k8] at h
      by_cases k9 : hk ts = 9 ∨ hk ts = 10
      · rw [if_pos k9] at h
        obtain ⟨a, ha, h⟩ := bind_some h
        obtain ⟨b, hb, h⟩ := bind_some h
        cases h
        have hl := rangeL_lt (cellN_lt ha) (cellN_lt hb)
        rw [List.length_cons]
        split
        · refine (ba_sum _ _ hl okv_zero).le ?_
          rw [eachI_len]; omega
        · refine (ba_cnt _ _ hl okv_zero).le ?_
          rw [eachI_len]; omega
      rw [if_neg k9] at h
      cases h
    rw [if_neg t3] at h
    by_cases hq : hk ts ∈ signs (tag - 4)
    · rw [if_pos hq] at h
      obtain ⟨⟨s1, d1, r1⟩, hx, h⟩ := bind_some h
      dsimp only at h
      refine ih tag off (s ++ (s1 ++ [iOp (signOp (hk ts))])) _ r1 seg d' rest htag h fun _ => ?_
      simp only [List.length_append, List.length_singleton]
      exact ba_bin (hp (by omega)) (ih (tag - 3) (off + s.length) [] _ _ s1 d1 r1 (by omega) hx (fun e => absurd e (by omega)))
    · rw [if_neg hq] at h
      cases h
      exact hp (by omega)
theorem cmp_whole {f : Nat} {ts rest : List Tk} {code : List Ins} {d : Beh} (h : cmp f 0 0 [] (retA vN) ts = some (code, d, rest)) : ActN code.length (bindA d retA) ∧ Runs code.length ⟨code, 0, [], []⟩ (bindA d retA) := by
  have h1 : ActN code.length (bindA d retA) := by
    have := cmp_ba f 0 0 [] (retA vN) ts code d rest (by omega) h (fun e => absurd e (by omega)) 0 retA fun v hv => ⟨v, hv, rfl⟩
    exact this
  obtain ⟨n, hn⟩ := cmp_runs h
  exact ⟨h1, Runs.of_act _ n _ _ hn h1⟩
theorem act_left : ∀ (l : List Rd) (d : Beh) (n : Nat), ActN n d → Tr d l → (∀ r ∈ l, OKV r.w) → l.length ≤ n ∧ ActN (n - l.length) (fun h => d (ws l ++ h))
  | [], d, n, h, _, _ => ⟨Nat.zero_le _, h⟩
  | a :: l, d, n, h, ⟨h1, h2⟩, ho => by
    obtain ⟨hc, m, rfl, hm⟩ := h.next h1
    obtain ⟨g1, g2⟩ := act_left l _ m (hm a.w (ho a List.mem_cons_self)) h2 (fun r hr => ho r (List.mem_cons_of_mem _ hr))
    refine ⟨by simp only [List.length_cons]; omega, ?_⟩
    rw [List.length_cons, show m + 1 - (l.length + 1) = m - l.length by omega]
    exact g2
end Go.Proofs.YtlpmmmmniojflaaGreatDoor
/- A working out, walked: a cell that is begun goes on; the parts. -/
set_option linter.unusedVariables false
set_option linter.unusedSimpArgs false
namespace Go.Proofs.YtlpmmmmniojflaaGreatDoor
open Go.RowKit
section
variable {E : Env} {c n : Nat} {r r' : Rn} {v : V} {nd : Nd}
theorem runP_done (h : (r.tk c).d [] = .inl v) : runP E c (n + 1) r = settle { r with store := r.store.add { (r.tk c).an with v := v } } c { (r.tk c).an with v := v } := by
  rw [runP, h]
theorem runP_wait (h : (r.tk c).d [] = .inr nd) (hl : look E r c nd.c = (r', none)) : runP E c (n + 1) r = r' := by
  rw [runP, h]; dsimp only; rw [hl]
theorem runP_cyc (h : (r.tk c).d [] = .inr nd) (hl : look E r c nd.c = (r, some v)) (hv : v.eqB cyc = true) : runP E c (n + 1) r = settle r c ⟨r.fs c, [], v⟩ := by
  rw [runP, h]; dsimp only; rw [hl]; dsimp only; rw [if_pos hv]
theorem runP_next (h : (r.tk c).d [] = .inr nd) (hl : look E r c nd.c = (r, some v)) (hv : v.eqB cyc = false) : runP E c (n + 1) r = runP E c n (r.put c { r.tk c with d := fun l => (r.tk c).d (see nd v :: l), an := { (r.tk c).an with rs := (r.tk c).an.rs ++ [⟨nd, see nd v⟩] } }) := by
  rw [runP, h]; dsimp only; rw [hl]; dsimp only; rw [if_neg (by rw [hv]; decide)]
end
set_option maxRecDepth 100000 in
set_option maxHeartbeats 2000000 in
theorem look_b (E : Env) (hE : Hid (RightW E)) (w : World) (own : Nat → Nat) (b x : Nat) (r : Rn) (c o : Nat) (v : V) (hc : c < 48) (ho : o < 48) (h : Hid (RR w own b x r)) (hW : Hid (WtOK r)) (hst : (r.tk o).st ≤ 3) (hv : (look E r c o).2 = some v) :
    Calls Tryz.prog 172 #[.pointer (some ⟨b, 0, none⟩), .int .i64 c, .int .i64 o] w fun e w' => e = .returned (.tuple #[vV v, .bool true]) ∧ Below w.heap.size w w' := by
  have hci : (c : Int) < 48 := by omega
  have hc0 : 0 ≤ (c : Int) := by omega
  have hoi : (o : Int) < 48 := by omega
  have ho0 : 0 ≤ (o : Int) := by omega
  have hT := h.out.tk o ho
  have s1 := hT.st
  have s1' := al hT.st
  have hlt := h.out.lt
  rw [← T_addr] at s1 s1'
  by_cases h3 : (r.tk o).st = 3
  · have HL : (r.tk o).an.v = v := by unfold look at hv; rw [if_pos h3] at hv; cases hv; rfl
    have hA := hT.ans h3
    have a2 := hA.k
    have a3 := hA.n
    have a4 := hA.s
    have e2 : T o + 11 + 2 = 290 + o * 16 + 11 + 2 := by unfold T; omega
    have e3 : T o + 11 + 3 = 290 + o * 16 + 11 + 2 + 1 := by unfold T; omega
    have e4 : T o + 11 + 4 = 290 + o * 16 + 11 + 2 + 2 := by unfold T; omega
    rw [e2] at a2
    rw [e3] at a3
    rw [e4] at a4
    have a2' := al a2
    have a3' := al a3
    have a4' := al a4
    have b3 : (((r.tk o).st : Int) == 3) = true := by simpa using (by omega : ((r.tk o).st : Int) = 3)
    rw [← HL]
    clear hA hT e2 e3 e4 h3 hv HL
    go_enter Tryz.func172, Tryz.ntmps172
    go_wp2_with fail
    refine bodyPost_ret (results_cell_tmp rfl _ _ _ ⟨w.heap.size, 0, none⟩ _ _ rfl (load52 (rnew _ _ _) rfl)) rfl ?_
    exact ⟨rfl, bl1 _ _⟩
  · have b3 : (((r.tk o).st : Int) == 3) = false := by simpa using (by omega : ((r.tk o).st : Int) ≠ 3)
    cases hw : E.W r.wts o c with
    | true =>
      have HL : Hid (cyc = v) := by unfold look at hv; rw [if_neg h3, if_pos hw] at hv; cases hv; exact rfl
      obtain ⟨W, HWt⟩ : ∃ W, W = true := ⟨true, rfl⟩
      have HWW : Hid (W = true ↔ ∃ m, along r.wts m o = c) := by unfold Hid; rw [HWt, ← hE.out r.wts hW.out.ends o c, hw]
      have HWt' : Hid (W = true) := HWt
      clear hw h3 hT HWt hv
      go_enter Tryz.func172, Tryz.ntmps172
      go_wp2_with fail
      refine (waitsFor_w _ own b x r o c ho hc (h.out.below (bl1 _ _) (fun _ _ => rfl)).1 hW W HWW).mono ?_
      rintro e w1 ⟨rfl, rfl⟩
      rw [HWt'.out]
      go_wp2_with fail
      refine (cycle_w _).mono ?_
      rintro e w2 ⟨rfl, hb2⟩
      have HR : Hid (w2.heap[w.heap.size]? = some (.cells #[.int .i64 0, .int .i64 0, .string ⟨#[]⟩] 52 (0, 0))) := by
        unfold Hid; rw [hb2.block _ (by simp)]; exact rnew w _ _
      obtain ⟨z0, z1, z2, z3, z4, z5⟩ := box3 rfl HR.out
      have HB : Hid (Below w.heap.size w w2) := (bl1 w _).trans (hb2.mono (by simp))
      clear hb2 s1 s1'
      unfold vV
      go_wp2_with fail
      refine bodyPost_ret (results_cell_tmp rfl _ _ _ ⟨w.heap.size, 0, none⟩ _ _ rfl (load52 (rset (rset (rset HR.out))) rfl)) rfl ?_
      rw [← HL.out]
      refine ⟨rfl, ?_⟩
      repeat (first | exact HB.out | refine Below.setCell ?_ (by dsimp only; omega) _)
    | false =>
      exfalso
      unfold look at hv
      rw [if_neg h3, if_neg (by rw [hw]; decide)] at hv
      cases hv
def RdgS (w : World) (own : Nat → Nat) (b x c : Nat) (r : Rn) (nd : Nd) (w' : World) : Prop := ∃ own' m, RR w' own' b x r ∧ RStep w own w' own' b x ∧ RunC w' own' b c (r.tk c).wt (r.tk c).kn (r.tk c).held (r.tk c).an m 1 nd ∧ MW m 1 nd (r.tk c).d ∧ (r.tk c).d [] = .inr nd ∧ nd.c < 48
def DoneS (w : World) (own : Nat → Nat) (b x c : Nat) (r : Rn) (w' : World) : Prop := ∃ own' m nd l y, RE w' own' b x r c ∧ RStep w own w' own' b x ∧ RunC w' own' b c (r.tk c).wt (r.tk c).kn (r.tk c).held (r.tk c).an m 2 nd ∧ m.vals = l ++ [y] ∧ (r.tk c).d [] = .inl y ∧ OKV y
theorem vals_split {m : Mc} {v : V} (h : m.vals.getLast? = some v) : m.vals = m.vals.dropLast ++ [v] := last_split h
theorem tsk2 {t : Tsk} (h : t.st = 2) : (⟨2, t.wt, t.kn, t.held, t.d, t.an⟩ : Tsk) = t := by cases t; cases h; rfl
theorem run175 (w : World) (own : Nat → Nat) (b x c : Nat) (r : Rn) (hc : c < 48) (h : RR w own b x r) (hs : (r.tk c).st = 2) :
    Calls Tryz.prog 175 #[.pointer (some ⟨b, 290 + c * 16 + 4, none⟩)] w fun e w' => (e = .returned (.int .i64 1) ∧ ∃ nd, Hid (RdgS w own b x c r nd w')) ∨ (e = .returned (.int .i64 2) ∧ Hid (DoneS w own b x c r w')) := by
  obtain ⟨m, mst, nd, hR, hM⟩ := h.runC hc hs
  obtain ⟨cs, hb, hsz⟩ := h.blk
  rw [T_addr]
  rcases hM with ⟨rfl, n, hn⟩ | ⟨rfl, hM⟩
  · have fin : ∀ (f : Nat) (mf : Mc) (out : Option Nd), goM f m = some (mf, out) → Calls Tryz.prog 175 #[.pointer (some ⟨b, T c + 4, none⟩)] w fun e w' => e = .returned (.int .i64 (stF out)) ∧ ∃ own', RE w' own' b x r c ∧ RStep w own w' own' b x ∧ RunC w' own' b c (r.tk c).wt (r.tk c).kn (r.tk c).held (r.tk c).an mf (stF out) (out.getD nd) ∧ (out ≠ none → mf.vals.length < mf.at') := by
      intro f mf out hg
      refine (run_w w own b (T c + 4) (cV c) (cG c) m nd f mf out (cols_c c) hR.mr hR.mi hg).mono ?_
      rintro e w' ⟨rfl, h1⟩
      obtain ⟨h2, h3, h4⟩ := h1.out
      obtain ⟨own', o1, o2, o3⟩ := hR.mstep hb h2 h3
      obtain ⟨r1, s1⟩ := (h.re c).chg hc o3 (fun k hk _ => o1 k hk)
      exact ⟨rfl, own', r1, s1, o2, h4⟩
    have done : ∀ (f : Nat) (mf : Mc) (v : V), goM f m = some (mf, none) → mf.vals.getLast? = some v → OKV v → (r.tk c).d [] = .inl v → Calls Tryz.prog 175 #[.pointer (some ⟨b, T c + 4, none⟩)] w fun e w' => (e = .returned (.int .i64 1) ∧ ∃ nd, Hid (RdgS w own b x c r nd w')) ∨ (e = .returned (.int .i64 2) ∧ Hid (DoneS w own b x c r w')) := by
      intro f mf v hg hl hv hd
      refine (fin f mf none hg).mono ?_
      rintro e w' ⟨rfl, own', r1, s1, o2, _⟩
      exact .inr ⟨rfl, own', mf, nd, _, v, r1, s1, o2, vals_split hl, hd, hv⟩
    cases n with
    | zero =>
      obtain ⟨f, mf, v, hg, hl, hv, hd⟩ := hn
      exact done f mf v hg hl hv hd
    | succ n =>
      rcases hn with ⟨f, mf, v, hg, hl, hv, hd⟩ | ⟨f, mf, nd', hg, hnc, hd, hk⟩
      · exact done f mf v hg hl hv hd
      · refine (fin f mf (some nd') hg).mono ?_
        rintro e w' ⟨rfl, own', r1, s1, o2, hl⟩
        have hMW : MW mf 1 nd' (r.tk c).d := .inr ⟨rfl, hd, hnc, hl (by simp), fun x hx => ⟨n, hk x hx⟩⟩
        refine .inl ⟨rfl, nd', own', mf, ?_, s1, o2, hMW, hd, hnc⟩
        have := r1.back hc (o2.tr hMW)
        rw [tsk2 hs, put_self] at this
        exact this
  · refine (run_idle w own b (T c + 4) (cV c) (cG c) m nd hR.mr).mono ?_
    rintro e w' ⟨rfl, rfl⟩
    exact .inl ⟨rfl, nd, own, m, h, RStep.refl _ _ _ _, hR, .inr ⟨rfl, hM⟩, hM.1, hM.2.1⟩
end Go.Proofs.YtlpmmmmniojflaaGreatDoor
