/- 'grammar.Number', exactly. -/
import Derived.Test.YtiocnfambeochaaGreatDoorNum
import Derived.Test.YtiocnfambeochaaGreatDoorRead
set_option linter.unusedVariables false
namespace Go.Proofs.YtiocnfambeochaaGreatDoor
open Go.RowKit

def pI (x : List UInt8) : Option Int := match Lib.parseIntB 64 x with | .ok v => some v | _ => none
/-- The number of a formula that is one, and nothing else. -/
def numT (ts : List Tk) : Option Int :=
  match ts with
  | [t] => if t.k = 1 then (pI t.x).map wrap64 else none
  | [m, t] => if m.k = 23 ∧ t.k = 1 then (pI t.x).map fun v => wrap64 (-v) else none
  | _ => none
theorem parse_ex (t : ByteArray) (ht : t.size ≤ 1000) (w : World) (hE : ErrVar w) (hS : SynVar w) :
    Calls Tryz.prog 108 #[.string t, .int .i64 10, .int .i64 64] w fun e w' => ∃ x y, e = .returned (.tuple #[.int .i64 x, y]) ∧ ((y = .nilIface ∧ pI t.data.toList = some x) ∨ ((∃ N, y = .iface 269 (.pointer (some ⟨N, 0, none⟩))) ∧ pI t.data.toList = none)) ∧ Below w.heap.size w w' := by
  unfold pI
  cases h : Lib.parseIntB 64 t.data.toList with
  | ok v =>
    refine (Tryz.strconv_ParseInt_10_at64_ok t (by omega) v h w).mono ?_
    rintro e w' ⟨rfl, rfl | ⟨t, rfl⟩⟩
    · exact ⟨_, _, rfl, .inl ⟨rfl, rfl⟩, Below.refl _ _⟩
    · exact ⟨_, _, rfl, .inl ⟨rfl, rfl⟩, Lib.bytesWorld_below w 5 t⟩
  | range =>
    obtain ⟨tp, p, hv⟩ := hE
    refine (Tryz.strconv_ParseInt_10_at64_range_var t (by omega) h tp p w hv).mono ?_
    rintro e w' ⟨N, rfl, _, _, hb⟩
    exact ⟨_, _, rfl, .inr ⟨⟨N, rfl⟩, rfl⟩, hb⟩
  | _ =>
    obtain ⟨tp, p, hv⟩ := hS
    have hs := (Any.strconv_ParseInt_10_at64_syntax_var Tryz.laysC174 t (by omega) h tp p w hv).mono (R' := fun e w' => ∃ x y, e = .returned (.tuple #[.int .i64 x, y]) ∧ ((y = .nilIface ∧ (none : Option Int) = some x) ∨ ((∃ N, y = .iface 269 (.pointer (some ⟨N, 0, none⟩))) ∧ (none : Option Int) = none)) ∧ Below w.heap.size w w') (by
      rintro e w' ⟨N, rfl, _, _, hb⟩
      exact ⟨_, _, rfl, .inr ⟨⟨N, rfl⟩, rfl⟩, hb⟩)
    exact hs
/-- An answer of 'Number'. -/
def NumE (W : World) (o : Option Int) (e : Ending) (w' : World) : Prop := e = .returned (.tuple #[.int .i64 (o.getD 0), .bool o.isSome]) ∧ Below W.heap.size W w'

set_option maxHeartbeats 1000000 in
theorem numx_plain (w : World) (ao : Option Addr) (m c : Nat) (k : Int) (t : ByteArray) (hm : m ≤ 1000000) (hk : k ≠ 23) (hao : 0 < m → ∃ g, ao = some ⟨g, 0, none⟩ ∧ w.cell? ⟨g, 0, none⟩ = some (.int .i64 k) ∧ (m = 1 → w.cell? ⟨g, 1, none⟩ = some (.string t) ∧ t.size ≤ 1000))
    (hE : Hid (ErrVar w)) (hS : Hid (SynVar w)) : Calls Tryz.prog 79 #[.slice ao m c] w (NumE w (if m = 1 ∧ k = 1 then (pI t.data.toList).map wrap64 else none)) := by
  by_cases h0 : 0 < m
  · obtain ⟨g, rfl, hc, ht⟩ := hao h0
    have h0i : (0 : Int) < (m : Int) := by omega
    have bk : (k == 23) = false := by simpa using hk
    by_cases h1 : m = 1
    · obtain ⟨ht1, hts⟩ := ht h1
      have HTS : Hid _ := hts
      clear ht hts hk hao
      subst h1
      by_cases hk1 : k = 1
      · have bk1 : (k != 1) = false := by simpa using hk1
        rw [if_pos ⟨rfl, hk1⟩]
        clear hk1
        go_enter Tryz.func79, Tryz.ntmps79
        go_wp2_with fail
        refine (parse_ex t HTS.out _ hE.out hS.out).mono ?_
        rintro e w1 ⟨x, y, rfl, ⟨rfl, hp⟩ | ⟨⟨N, rfl⟩, hp⟩, hb⟩
        · have HB : Hid _ := hb
          have HP : Hid _ := hp
          clear hb hp
          go_wp2_with fail
          go_ret2
          unfold NumE
          rw [HP.out]
          exact ⟨rfl, HB.out⟩
        · have HB : Hid _ := hb
          have HP : Hid _ := hp
          clear hb hp
          go_wp2_with fail
          go_ret2
          unfold NumE
          rw [HP.out]
          exact ⟨rfl, HB.out⟩
      · have bk1 : (k != 1) = true := by simpa using hk1
        rw [if_neg (fun h => hk1 h.2)]
        clear hk1
        go_enter Tryz.func79, Tryz.ntmps79
        go_wp2_with fail
        go_ret2
        exact ⟨rfl, Below.refl _ _⟩
    · have b1 : ((m : Int) != 1) = true := by simpa using (by omega : (m : Int) ≠ 1)
      rw [if_neg (fun h => h1 h.1)]
      clear h1 hk ht hao
      go_enter Tryz.func79, Tryz.ntmps79
      go_wp2_with fail
      go_ret2
      exact ⟨rfl, Below.refl _ _⟩
  · have e : m = 0 := by omega
    subst e
    rw [if_neg (by omega)]
    clear hao hk h0
    go_enter Tryz.func79, Tryz.ntmps79
    go_wp2_with fail
    go_ret2
    exact ⟨rfl, Below.refl _ _⟩

set_option maxHeartbeats 1000000 in
theorem numx_minus (w : World) (g m c : Nat) (k : Int) (t : ByteArray) (hm : m ≤ 1000000) (hmc : m + 1 ≤ c) (hc : w.cell? ⟨g, 0, none⟩ = some (.int .i64 23)) (hao : m = 1 → w.cell? ⟨g, 3, none⟩ = some (.int .i64 k) ∧ w.cell? ⟨g, 4, none⟩ = some (.string t) ∧ t.size ≤ 1000)
    (hE : Hid (ErrVar w)) (hS : Hid (SynVar w)) : Calls Tryz.prog 79 #[.slice (some ⟨g, 0, none⟩) (m + 1) c] w (NumE w (if m = 1 ∧ k = 1 then (pI t.data.toList).map fun v => wrap64 (-v) else none)) := by
  by_cases h1 : m = 1
  · obtain ⟨hc3, ht1, hts⟩ := hao h1
    subst h1
    have HTS : Hid _ := hts
    clear hts hao
    by_cases hk1 : k = 1
    · have bk1 : (k != 1) = false := by simpa using hk1
      rw [if_pos ⟨rfl, hk1⟩]
      clear hk1
      go_enter Tryz.func79, Tryz.ntmps79
      go_wp2_with fail
      refine (parse_ex t HTS.out _ hE.out hS.out).mono ?_
      rintro e w1 ⟨x, y, rfl, ⟨rfl, hp⟩ | ⟨⟨N, rfl⟩, hp⟩, hb⟩
      · have HB : Hid _ := hb
        have HP : Hid _ := hp
        clear hb hp
        go_wp2_with fail
        go_ret2
        unfold NumE
        rw [HP.out]
        exact ⟨rfl, HB.out⟩
      · have HB : Hid _ := hb
        have HP : Hid _ := hp
        clear hb hp
        go_wp2_with fail
        go_ret2
        unfold NumE
        rw [HP.out]
        exact ⟨rfl, HB.out⟩
    · have bk1 : (k != 1) = true := by simpa using hk1
      rw [if_neg (fun h => hk1 h.2)]
      clear hk1
      go_enter Tryz.func79, Tryz.ntmps79
      go_wp2_with fail
      go_ret2
      exact ⟨rfl, Below.refl _ _⟩
  · have b1 : ((m : Int) != 1) = true := by simpa using (by omega : (m : Int) ≠ 1)
    rw [if_neg (fun h => h1 h.1)]
    clear h1 hao
    go_enter Tryz.func79, Tryz.ntmps79
    go_wp2_with fail
    all_goals
      go_ret2
      exact ⟨rfl, Below.refl _ _⟩

theorem numx_any (w : World) (v : Value) (ts : List Tk) (h : TL w v ts) (hs : ts.length ≤ 1000000) (hx : ∀ t ∈ ts, t.x.length ≤ 1000) (hE : ErrVar w) (hS : SynVar w) :
    Calls Tryz.prog 79 #[v] w (NumE w (numT ts)) := by
  have sz : ∀ t ∈ ts, (⟨t.x.toArray⟩ : ByteArray).size ≤ 1000 := fun t ht => by have := hx t ht; simp only [ByteArray.size, List.size_toArray]; exact this
  rcases h with ⟨rfl, rfl⟩ | ⟨g, cap, rfl, hcap, hc⟩
  · exact numx_plain w none 0 0 0 ⟨#[]⟩ (by omega) (by omega) (by omega) hE hS
  match ts, hcap, hc, sz, hs with
  | [], _, _, _, _ => exact numx_plain w _ 0 cap 0 ⟨#[]⟩ (by omega) (by omega) (by omega) hE hS
  | [t], hcap, hc, sz, hs =>
    have h0 := hc 0 t rfl
    by_cases hk : t.k = 23
    · rw [hk] at h0
      have := numx_minus w g 0 cap 0 ⟨#[]⟩ (by omega) hcap h0.1 (by omega) hE hS
      have e : numT [t] = if 0 = 1 ∧ (0 : Int) = 1 then (pI [] : Option Int).map fun v => wrap64 (-v) else none := by
        show (if t.k = 1 then _ else none) = _
        rw [if_neg (by omega), if_neg (by omega)]
      rw [e]; exact this
    · have := numx_plain w _ 1 cap t.k ⟨t.x.toArray⟩ hs hk (fun _ => ⟨g, rfl, h0.1, fun _ => ⟨h0.2.1, sz t (by simp)⟩⟩) hE hS
      have e : numT [t] = if 1 = 1 ∧ t.k = 1 then (pI t.x).map wrap64 else none := by unfold numT; simp
      rw [e]; exact this
  | t :: u :: r, hcap, hc, sz, hs =>
    have h0 := hc 0 t rfl
    have h1 := hc 1 u rfl
    by_cases hk : t.k = 23
    · rw [hk] at h0
      have := numx_minus w g (u :: r).length cap u.k ⟨u.x.toArray⟩ (by simp only [List.length_cons] at hs ⊢; omega) hcap h0.1 (fun _ => ⟨h1.1, h1.2.1, sz u (by simp)⟩) hE hS
      have e : numT (t :: u :: r) = if (u :: r).length = 1 ∧ u.k = 1 then (pI u.x).map fun v => wrap64 (-v) else none := by
        cases r with
        | nil => unfold numT; simp [hk]
        | cons a b => unfold numT; simp
      rw [e]; exact this
    · have := numx_plain w _ (t :: u :: r).length cap t.k ⟨t.x.toArray⟩ hs hk (fun _ => ⟨g, rfl, h0.1, fun h => absurd h (by simp)⟩) hE hS
      have e : numT (t :: u :: r) = if (t :: u :: r).length = 1 ∧ t.k = 1 then (pI t.x).map wrap64 else none := by
        cases r with
        | nil => unfold numT; simp [hk]
        | cons a b => unfold numT; simp
      rw [e]; exact this
end Go.Proofs.YtiocnfambeochaaGreatDoor
