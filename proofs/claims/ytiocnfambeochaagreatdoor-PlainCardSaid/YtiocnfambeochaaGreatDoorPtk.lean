/- A token in its plain form: 'withoutNoughts', 'plainToken'. -/
import Derived.Test.YtiocnfambeochaaGreatDoorChk
namespace Go.Proofs.YtiocnfambeochaaGreatDoor
open Go.RowKit

/-- A row of digits without noughts ahead. -/
def nzT (l : List UInt8) : List UInt8 := if l.dropWhile (· == 48) = [] then [48] else l.dropWhile (· == 48)
def ptk (t : Tk) : List UInt8 :=
  if t.k = 1 then nzT t.x else if t.k ∈ [16, 17, 18, 19, 20, 21, 22] then 32 :: (t.x ++ [32]) else if t.k = 14 then t.x ++ [32] else t.x

theorem str_eq {a b : ByteArray} (h : a.data.toList = b.data.toList) : Ending.returned (.string a) = .returned (.string b) := by
  obtain ⟨⟨a⟩⟩ := a
  obtain ⟨⟨b⟩⟩ := b
  simp only at h
  rw [h]

theorem trim_any (s : ByteArray) (w : World) : Calls Tryz.prog 126 #[.string s, .string ⟨#[48]⟩] w fun e w' => e = .returned (.string ⟨(s.data.toList.dropWhile (· == 48)).toArray⟩) ∧ w' = w :=
  Tryz.strings_TrimLeft_one s 48 (by decide) w

set_option maxHeartbeats 1000000 in
theorem noughts_any (s : ByteArray) (w : World) : Calls Tryz.prog 96 #[.string s] w fun e w' => e = .returned (.string ⟨(nzT s.data.toList).toArray⟩) ∧ w' = w := by
  have hn : Hid _ := show nzT s.data.toList = if s.data.toList.dropWhile (· == 48) = [] then [48] else s.data.toList.dropWhile (· == 48) from rfl
  obtain ⟨r, hr⟩ : ∃ r, s.data.toList.dropWhile (· == 48) = r := ⟨_, rfl⟩
  have HR : Hid _ := hr
  clear hr
  go_enter Tryz.func96, Tryz.ntmps96
  go_wp2_with fail
  refine (trim_any s _).mono ?_
  rintro e w1 ⟨rfl, rfl⟩
  rw [HR.out]
  cases r with
  | nil =>
    have HN : Hid (nzT s.data.toList = [48]) := by unfold Hid; rw [hn.out, HR.out, if_pos rfl]
    go_wp2_with fail
    go_ret
    rw [HN.out]
    exact ⟨rfl, rfl⟩
  | cons a r =>
    have HN : Hid (nzT s.data.toList = a :: r) := by unfold Hid; rw [hn.out, HR.out, if_neg (by simp)]
    go_wp2_with fail
    go_ret
    rw [HN.out]
    exact ⟨rfl, rfl⟩

set_option maxHeartbeats 1000000 in
theorem plainToken_any (t : Tk) (w : World) (hx : t.x.length ≤ 1000000) :
    Calls Tryz.prog 64 #[.agg #[.int .i64 t.k, .string ⟨t.x.toArray⟩, .int .i64 t.p]] w fun e w' => e = .returned (.string ⟨(ptk t).toArray⟩) ∧ Below w.heap.size w w' := by
  obtain ⟨k, x, p⟩ := t
  simp only at hx ⊢
  have HP : Hid (ptk ⟨k, x, p⟩ = if k = 1 then nzT x else if k ∈ [16, 17, 18, 19, 20, 21, 22] then 32 :: (x ++ [32]) else if k = 14 then x ++ [32] else x) := rfl
  generalize ptk ⟨k, x, p⟩ = out at *
  by_cases h1 : k = 1
  · have b1 : (k == 1) = true := by simpa using h1
    have HP2 : Hid (out = nzT x) := by unfold Hid; rw [HP.out, if_pos h1]
    clear HP h1
    go_enter Tryz.func64, Tryz.ntmps64
    go_wp2_with fail
    refine (noughts_any _ _).mono ?_
    rintro e w1 ⟨rfl, rfl⟩
    go_wp2_with fail
    go_ret
    rw [HP2.out]
    exact ⟨rfl, (Below.refl _ _).alloc (Nat.le_refl _) _⟩
  by_cases h2 : k ∈ [16, 17, 18, 19, 20, 21, 22]
  · have HP2 : Hid (out = 32 :: (x ++ [32])) := by unfold Hid; rw [HP.out, if_neg h1, if_pos h2]
    simp only [List.mem_cons, List.not_mem_nil, or_false] at h2
    clear HP h1
    rcases h2 with rfl | rfl | rfl | rfl | rfl | rfl | rfl
    all_goals
      go_enter Tryz.func64, Tryz.ntmps64
      go_wp2_with fail
      go_ret
      rw [HP2.out]
      refine ⟨?_, (Below.refl _ _).alloc (Nat.le_refl _) _⟩
      first | rfl | (refine str_eq ?_; simp) | trace_state
  have b1 : (k == 1) = false := by simpa using h1
  simp only [List.mem_cons, List.not_mem_nil, or_false, not_or] at h2
  obtain ⟨a16, a17, a18, a19, a20, a21, a22⟩ := h2
  have b16 : (k == 16) = false := by simpa using a16
  have b17 : (k == 17) = false := by simpa using a17
  have b18 : (k == 18) = false := by simpa using a18
  have b19 : (k == 19) = false := by simpa using a19
  have b20 : (k == 20) = false := by simpa using a20
  have b21 : (k == 21) = false := by simpa using a21
  have b22 : (k == 22) = false := by simpa using a22
  have HP3 : Hid (out = if k = 14 then x ++ [32] else x) := by unfold Hid; rw [HP.out, if_neg h1, if_neg (by simp [a16, a17, a18, a19, a20, a21, a22])]
  clear HP h1 a16 a17 a18 a19 a20 a21 a22
  by_cases h14 : k = 14
  · have b14 : (k == 14) = true := by simpa using h14
    have HP2 : Hid (out = x ++ [32]) := by unfold Hid; rw [HP3.out, if_pos h14]
    clear HP3 h14
    go_enter Tryz.func64, Tryz.ntmps64
    go_wp2_with fail
    go_ret
    rw [HP2.out]
    refine ⟨?_, (Below.refl _ _).alloc (Nat.le_refl _) _⟩
    first | rfl | (refine str_eq ?_; simp) | trace_state
  · have b14 : (k == 14) = false := by simpa using h14
    have HP2 : Hid (out = x) := by unfold Hid; rw [HP3.out, if_neg h14]
    clear HP3 h14
    go_enter Tryz.func64, Tryz.ntmps64
    go_wp2_with fail
    go_ret
    rw [HP2.out]
    refine ⟨?_, (Below.refl _ _).alloc (Nat.le_refl _) _⟩
    first | rfl | (refine str_eq ?_; simp) | trace_state
end Go.Proofs.YtiocnfambeochaaGreatDoor
