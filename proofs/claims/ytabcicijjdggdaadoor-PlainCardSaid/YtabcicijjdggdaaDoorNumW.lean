/- 'grammar.Number', walked: whatever the tokens are, an answer of 64 bits. -/
import Derived.Test.YtabcicijjdggdaaDoorNum
import Derived.Test.YtabcicijjdggdaaDoorRead
namespace Go.Proofs.YtabcicijjdggdaaDoor
open Go.RowKit

theorem numA_ret {W w' : World} (n : Int) (b : Bool) (h1 : -9223372036854775808 ≤ n) (h2 : n ≤ 9223372036854775807) (hb : Below W.heap.size W w') : NumA W (.returned (.tuple #[.int .i64 n, .bool b])) w' :=
  ⟨n, b, rfl, ⟨h1, h2⟩, hb⟩
theorem wrap64_range (x : Int) : -9223372036854775808 ≤ wrap64 x ∧ wrap64 x ≤ 9223372036854775807 := by unfold wrap64; omega

set_option maxHeartbeats 1000000 in
/-- No '-' ahead. -/
theorem number_plain (w : World) (ao : Option Addr) (m c : Nat) (k : Int) (hm : m ≤ 1000000) (hk : k ≠ 23) (hao : 0 < m → ∃ g, ao = some ⟨g, 0, none⟩ ∧ w.cell? ⟨g, 0, none⟩ = some (.int .i64 k) ∧ (m = 1 → ∃ t : ByteArray, w.cell? ⟨g, 1, none⟩ = some (.string t) ∧ t.size ≤ 1000))
    (hE : Hid (ErrVar w)) (hS : Hid (SynVar w)) : Calls Tryd.prog 36 #[.slice ao m c] w (NumA w) := by
  by_cases h0 : 0 < m
  · obtain ⟨g, rfl, hc, ht⟩ := hao h0
    have h0i : (0 : Int) < (m : Int) := by omega
    have bk : (k == 23) = false := by simpa using hk
    by_cases h1 : m = 1
    · obtain ⟨t, ht1, hts⟩ := ht h1
      have HTS : Hid _ := hts
      clear ht hts hk hao
      subst h1
      by_cases hk1 : k = 1
      · have bk1 : (k != 1) = false := by simpa using hk1
        clear hk1
        go_enter Tryd.func36, Tryd.ntmps36
        go_wp2_with fail
        refine (parse_any t HTS.out _ hE.out hS.out).mono ?_
        rintro e w1 ⟨x, y, rfl, rfl | ⟨N, rfl⟩, hb⟩
        · have HB : Hid _ := hb
          clear hb
          go_wp2_with fail
          go_ret2
          exact numA_ret _ _ (wrap64_range _).1 (wrap64_range _).2 HB.out
        · have HB : Hid _ := hb
          clear hb
          go_wp2_with fail
          go_ret2
          exact numA_ret 0 _ (by omega) (by omega) HB.out
      · have bk1 : (k != 1) = true := by simpa using hk1
        clear hk1
        go_enter Tryd.func36, Tryd.ntmps36
        go_wp2_with fail
        go_ret2
        exact numA_ret 0 _ (by omega) (by omega) (Below.refl _ _)
    · have b1 : ((m : Int) != 1) = true := by simpa using (by omega : (m : Int) ≠ 1)
      clear h1 hk ht hao
      go_enter Tryd.func36, Tryd.ntmps36
      go_wp2_with fail
      go_ret2
      exact numA_ret 0 _ (by omega) (by omega) (Below.refl _ _)
  · have e : m = 0 := by omega
    subst e
    clear hao hk h0
    go_enter Tryd.func36, Tryd.ntmps36
    go_wp2_with fail
    go_ret2
    exact numA_ret 0 _ (by omega) (by omega) (Below.refl _ _)

set_option maxHeartbeats 1000000 in
/-- A '-' ahead. -/
theorem number_minus (w : World) (g m c : Nat) (k : Int) (hm : m ≤ 1000000) (hmc : m + 1 ≤ c) (hc : w.cell? ⟨g, 0, none⟩ = some (.int .i64 23)) (hao : m = 1 → w.cell? ⟨g, 3, none⟩ = some (.int .i64 k) ∧ ∃ t : ByteArray, w.cell? ⟨g, 4, none⟩ = some (.string t) ∧ t.size ≤ 1000)
    (hE : Hid (ErrVar w)) (hS : Hid (SynVar w)) : Calls Tryd.prog 36 #[.slice (some ⟨g, 0, none⟩) (m + 1) c] w (NumA w) := by
  by_cases h1 : m = 1
  · obtain ⟨hc3, t, ht1, hts⟩ := hao h1
    subst h1
    have HTS : Hid _ := hts
    clear hts hao
    by_cases hk1 : k = 1
    · have bk1 : (k != 1) = false := by simpa using hk1
      clear hk1
      go_enter Tryd.func36, Tryd.ntmps36
      go_wp2_with fail
      refine (parse_any t HTS.out _ hE.out hS.out).mono ?_
      rintro e w1 ⟨x, y, rfl, rfl | ⟨N, rfl⟩, hb⟩
      · have HB : Hid _ := hb
        clear hb
        go_wp2_with fail
        go_ret2
        exact numA_ret _ _ (wrap64_range _).1 (wrap64_range _).2 HB.out
      · have HB : Hid _ := hb
        clear hb
        go_wp2_with fail
        go_ret2
        exact numA_ret 0 _ (by omega) (by omega) HB.out
    · have bk1 : (k != 1) = true := by simpa using hk1
      clear hk1
      go_enter Tryd.func36, Tryd.ntmps36
      go_wp2_with fail
      go_ret2
      exact numA_ret 0 _ (by omega) (by omega) (Below.refl _ _)
  · have b1 : ((m : Int) != 1) = true := by simpa using (by omega : (m : Int) ≠ 1)
    clear h1 hao
    go_enter Tryd.func36, Tryd.ntmps36
    go_wp2_with fail
    all_goals
      go_ret2
      exact numA_ret 0 _ (by omega) (by omega) (Below.refl _ _)

theorem gnumber_any (w : World) (v : Value) (ts : List Tk) (h : TL w v ts) (hs : ts.length ≤ 1000000) (hx : ∀ t ∈ ts, t.x.length ≤ 1000) (hE : ErrVar w) (hS : SynVar w) :
    Calls Tryd.prog 36 #[v] w (NumA w) := by
  have sz : ∀ t ∈ ts, (⟨t.x.toArray⟩ : ByteArray).size ≤ 1000 := fun t ht => by have := hx t ht; simp only [ByteArray.size, List.size_toArray]; exact this
  rcases h with ⟨rfl, rfl⟩ | ⟨g, cap, rfl, hcap, hc⟩
  · exact number_plain w none 0 0 0 (by omega) (by omega) (by omega) hE hS
  match ts, hcap, hc, sz, hs with
  | [], _, _, _, _ => exact number_plain w _ 0 cap 0 (by omega) (by omega) (by omega) hE hS
  | t :: r, hcap, hc, sz, hs =>
    have h0 := hc 0 t rfl
    by_cases hk : t.k = 23
    · rw [hk] at h0
      match r, hc, sz, hcap, hs with
      | [], _, _, hcap, _ => exact number_minus w g 0 cap 0 (by omega) hcap h0.1 (by omega) hE hS
      | u :: r, hc, sz, hcap, hs =>
        have h1 := hc 1 u rfl
        exact number_minus w g (u :: r).length cap u.k (by simp only [List.length_cons] at hs ⊢; omega) hcap h0.1 (fun _ => ⟨h1.1, _, h1.2.1, sz u (by simp)⟩) hE hS
    · exact number_plain w _ (t :: r).length cap t.k hs hk (fun _ => ⟨g, rfl, h0.1, fun _ => ⟨_, h0.2.1, sz t (by simp)⟩⟩) hE hS
end Go.Proofs.YtabcicijjdggdaaDoor
