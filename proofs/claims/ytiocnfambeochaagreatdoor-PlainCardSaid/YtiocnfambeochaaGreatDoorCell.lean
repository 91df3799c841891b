/- 'place'; the cells: 'Number', 'Area'. -/
import Derived.Test.YtiocnfambeochaaGreatDoorPars
namespace Go.Proofs.YtiocnfambeochaaGreatDoor
open Go.RowKit

def plcAt (ts : List Tk) (i : Nat) (n : Nat) : Nat := match ts[i]? with | some t => t.p | none => n

set_option maxHeartbeats 1000000 in
theorem place_any (w : World) (B pb : Nat) (v : Value) (ts : List Tk) (i d n : Nat) (h : Hid (PW w B pb v ts i d)) :
    Calls Tryz.prog 94 #[.pointer (some ⟨pb, 0, none⟩), .int .i64 n] w fun e w' => e = .returned (.int .i64 (plcAt ts i n)) ∧ ∃ n, w' = w.drewN n := by
  have c0 := h.out.c0
  have c1 := h.out.c1
  have hle := h.out.le
  have hsm := h.out.small
  rcases h.out.list with ⟨rfl, rfl⟩ | ⟨g, cap, rfl, hg, hcap, hc⟩
  · have hi : i = 0 := by simpa using hle
    subst hi
    go_enter Tryz.func94, Tryz.ntmps94
    go_wp2
    go_quiet (fail)
    go_wp2
    go_ret
    exact ⟨rfl, _, rfl⟩
  · by_cases hlt : i < ts.length
    · obtain ⟨t, ht⟩ : ∃ t, ts[i]? = some t := ⟨_, List.getElem?_eq_getElem hlt⟩
      obtain ⟨_, _, k0⟩ := hc i t ht
      have hk : Hid (plcAt ts i n = t.p) := by unfold Hid plcAt; rw [ht]
      have hlti : (i : Int) < (ts.length : Int) := by omega
      clear hc ht
      go_enter Tryz.func94, Tryz.ntmps94
      go_wp2
      go_quiet (fail)
      go_wp2
      go_quiet (fail)
      go_wp2
      go_ret
      rw [hk.out]
      exact ⟨rfl, _, by rw [World.drewN_drewN]⟩
    · have hlti : ¬ (i : Int) < (ts.length : Int) := by omega
      have hk : Hid (plcAt ts i n = n) := by unfold Hid plcAt; rw [List.getElem?_eq_none (by omega)]
      clear hc
      go_enter Tryz.func94, Tryz.ntmps94
      go_wp2
      go_quiet (fail)
      go_wp2
      go_ret
      rw [hk.out]
      exact ⟨rfl, _, rfl⟩

/-- A cell's number, and whether it is one. -/
def cnI (a b : Int) : Int × Bool := if 65 ≤ a ∧ a ≤ 70 ∧ 49 ≤ b ∧ b ≤ 56 then ((b - 49) * 6 + (a - 65), true) else (0, false)
def cn (l : List UInt8) : Int × Bool :=
  match l with
  | [a, b] => cnI (a.toNat : Int) (b.toNat : Int)
  | _ => (0, false)

theorem cn_short (s : ByteArray) (h : s.size ≠ 2) : cn s.data.toList = (0, false) := by
  have hl := len_eq s
  match hs : s.data.toList with
  | [] => rfl
  | [_] => rfl
  | [_, _] => rw [hs] at hl; simp at hl; omega
  | _ :: _ :: _ :: _ => rfl
theorem cn_two (s : ByteArray) (h : s.size = 2) (h0 : 0 < s.size) (h1 : 1 < s.size) : cn s.data.toList = cnI (s[0].toNat : Int) (s[1].toNat : Int) := by
  have g0 := drop_at s 0 h0
  have g1 := drop_at s 1 h1
  have g2 := drop_end s
  rw [h] at g2
  simp only [List.drop_zero, Nat.zero_add] at g0 g1
  rw [g2] at g1
  rw [g1] at g0
  rw [g0]
  rfl

theorem wrap_byte (c : UInt8) (k : Int) (h0 : 0 ≤ k) (h1 : k ≤ 256) : wrap64 (wrap64 (c.toNat : Int) - k) = (c.toNat : Int) - k := by
  have := c.toNat_lt
  unfold wrap64; omega

set_option maxHeartbeats 1000000 in
theorem number_cell (s : ByteArray) (w : World) :
    Calls Tryz.prog 44 #[.string s] w fun e w' => e = .returned (.tuple #[.int .i64 (cn s.data.toList).1, .bool (cn s.data.toList).2]) ∧ ∃ n, w' = w.drewN n := by
  by_cases h2 : s.size = 2
  · have h0 : 0 < s.size := by omega
    have h1 : 1 < s.size := by omega
    have HC : Hid _ := cn_two s h2 h0 h1
    have hz : ((s.size : Int) != 2) = false := by simpa using (by omega : (s.size : Int) = 2)
    have h0i : (0 : Int) < (s.size : Int) := by omega
    have h1i : (1 : Int) < (s.size : Int) := by omega
    clear h2
    go_enter Tryz.func44, Tryz.ntmps44
    go_wp2
    go_quiet (fail)
    have w0 : wrap64 (wrap64 (s[0].toNat : Int) - 65) = (s[0].toNat : Int) - 65 := wrap_byte s[0] 65 (by omega) (by omega)
    have w1 : wrap64 (wrap64 (s[1].toNat : Int) - 49) = (s[1].toNat : Int) - 49 := wrap_byte s[1] 49 (by omega) (by omega)
    rw [w0, w1]
    clear w0 w1
    generalize wrap64 (s[0].toNat : Int) = p0
    generalize wrap64 (s[1].toNat : Int) = p1
    generalize (s[0].toNat : Int) = a at *
    generalize (s[1].toNat : Int) = b at *
    by_cases ha1 : a - 65 < 0
    · go_wp2
      go_ret2
      rw [HC.out, cnI, if_neg (by omega)]
      exact ⟨rfl, _, rfl⟩
    by_cases ha2 : 6 ≤ a - 65
    · go_wp2
      go_ret2
      rw [HC.out, cnI, if_neg (by omega)]
      exact ⟨rfl, _, rfl⟩
    by_cases hb1 : b - 49 < 0
    · go_wp2
      go_ret2
      rw [HC.out, cnI, if_neg (by omega)]
      exact ⟨rfl, _, rfl⟩
    by_cases hb2 : 8 ≤ b - 49
    · go_wp2
      go_ret2
      rw [HC.out, cnI, if_neg (by omega)]
      exact ⟨rfl, _, rfl⟩
    go_wp2
    go_ret2
    rw [HC.out, cnI, if_pos (by omega)]
    exact ⟨rfl, _, rfl⟩
  · have HC : Hid _ := cn_short s h2
    have hz : ((s.size : Int) != 2) = true := by simpa using (by omega : (s.size : Int) ≠ 2)
    clear h2
    go_enter Tryz.func44, Tryz.ntmps44
    go_wp2
    go_ret2
    rw [HC.out]
    exact ⟨rfl, 0, rfl⟩

theorem cn_range (l : List UInt8) : 0 ≤ (cn l).1 ∧ (cn l).1 ≤ 47 := by
  unfold cn
  split
  · unfold cnI
    split
    · simp only; omega
    · simp
  · simp

/-- How many cells a range has; 0: it is none. -/
def arI (x y : Int × Bool) : Int :=
  if x.2 = true then if y.2 = true then if y.1 % 6 - x.1 % 6 + 1 < 1 then 0 else if y.1 / 6 - x.1 / 6 + 1 < 1 then 0 else (y.1 % 6 - x.1 % 6 + 1) * (y.1 / 6 - x.1 / 6 + 1) else 0 else 0

end Go.Proofs.YtiocnfambeochaaGreatDoor
