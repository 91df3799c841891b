/- A working out, walked: settleClean. -/
import Derived.Test.YtlpmmmmniojflaaGreatDoorUc
set_option linter.unusedVariables false
set_option linter.unusedSimpArgs false
namespace Go.Proofs.YtlpmmmmniojflaaGreatDoor
open Go.RowKit
def clT (r : Rn) (mk : Nat → Bool) (j c : Nat) : Tsk := if c < j ∧ mk c = false then ⟨3, -1, [], 0, retA vN, r.last c⟩ else r.tk c
def clR (r : Rn) (mk : Nat → Bool) (j : Nat) : Rn := { r with tk := clT r mk j }
theorem clR_zero (r : Rn) (mk : Nat → Bool) : clR r mk 0 = r := by
  unfold clR
  have : clT r mk 0 = r.tk := by funext c; unfold clT; rw [if_neg (by omega)]
  rw [this]
theorem clR_dirty {r : Rn} {mk : Nat → Bool} {j : Nat} (h : mk j = true) : clR r mk (j + 1) = clR r mk j := by
  unfold clR
  have : clT r mk (j + 1) = clT r mk j := by
    funext c
    unfold clT
    by_cases h1 : c < j ∧ mk c = false
    · rw [if_pos h1, if_pos ⟨by omega, h1.2⟩]
    · rw [if_neg h1, if_neg]
      rintro ⟨h2, h3⟩
      refine h1 ⟨?_, h3⟩
      rcases Nat.lt_or_ge c j with h4 | h4
      · exact h4
      · have : c = j := by omega
        rw [this, h] at h3; cases h3
  rw [this]
theorem clR_clean {r : Rn} {mk : Nat → Bool} {j : Nat} (h : mk j = false) : clR r mk (j + 1) = settle (clR r mk j) j (r.last j) := by
  unfold clR settle Rn.put
  have : clT r mk (j + 1) = fun i => if i = j then ⟨3, -1, [], 0, retA vN, r.last j⟩ else clT r mk j i := by
    funext c
    unfold clT
    by_cases e : c = j
    · subst e; rw [if_pos rfl, if_pos ⟨by omega, h⟩]
    · rw [if_neg e]
      by_cases h1 : c < j ∧ mk c = false
      · rw [if_pos h1, if_pos ⟨by omega, h1.2⟩]
      · rw [if_neg h1, if_neg]
        rintro ⟨h2, h3⟩
        exact h1 ⟨by omega, h3⟩
  rw [this]
set_option maxRecDepth 100000 in
set_option maxHeartbeats 4000000 in
theorem clean_w (w : World) (own : Nat → Nat) (b x : Nat) (r : Rn) (mk : Nat → Bool) (h : Hid (RR w own b x r)) (hr : Hid (∀ c, c < 48 → stays r c = true → ∀ y ∈ (r.last c).rs, y.nd.c < 48)) (hm : Hid (∀ c, c < 48 → (mk c = true ↔ ∃ n, dn r.fs r.last n c))) :
    Calls Tryz.prog 114 #[.pointer (some ⟨b, 0, none⟩)] w fun e w' => e = .returned (.tuple #[]) ∧ Hid (RS w own b x w' (clR r mk 48)) := by
  go_enter Tryz.func114, Tryz.ntmps114
  go_wp2_with fail
  refine (dirty_w w own b x r h hr).mono ?_
  rintro e w1 ⟨M, rfl, h1⟩
  have HM : Hid (∀ j, j < 48 → M[j]? = some (.bool (mk j))) := by
    obtain ⟨_, _, mk', k1, k2⟩ := h1.out
    intro j hj
    rw [k1 j hj, show mk' j = mk j by rw [Bool.eq_iff_iff, k2 j hj, hm.out j hj]]
  have HS0 : Hid (RS w own b x w1 (clR r mk 0)) := by
    rw [clR_zero]
    exact ⟨own, h.out.below (own' := own) h1.out.2.1 (fun _ _ => rfl)⟩
  clear h1 hr hm
  go_wp2_with fail
  go_loopw [6] (fun s wr => ∃ j : Nat, s = .int .i64 j ∧ Hid (j ≤ 48) ∧ Hid (RS w own b x wr (clR r mk j))) (fun s _ => (48 - intOf s).toNat)
  case atStart => exact ⟨0, rfl, Nat.zero_le _, HS0⟩
  case round =>
    clear HS0
    obtain ⟨j, rfl, HJ, HR⟩ := hrel
    by_cases hj : j < 48
    · have hji : (j : Int) < 48 := by omega
      have hj0 : 0 ≤ (j : Int) := by omega
      have w1' : IntKind.i64.wrap ((j : Int) + 1) = (j : Int) + 1 := by rw [IntKind.wrap_i64]; omega
      have w2' : wrap64 ((j : Int) + 1) = (j : Int) + 1 := by unfold wrap64; omega
      have HJ' : Hid (j < 48) := hj
      have HIX : Hid (∀ w, (Instr.index 146 (.agg M) (.int .i64 j)).run Tryz.prog w = .ok (.bool (mk j)) w) := fun w => index146 w hj (HM.out j hj)
      cases hmj : mk j with
      | true =>
        rw [hmj] at HIX
        have HMJ : Hid (mk j = true) := hmj
        clear hj HJ hmj
        go_wp2_with ((refine wpList_index_run (P := Tryz.prog) ?_ 146 (.tmp 5) (.tmp 6) ?_ (.agg M) (.int .i64 j) (.bool true) ?_ ?_ ?_ ?_; (rfl); (rfl); (rfl); (rfl); (exact HIX.out _)))
        go_roundw
        case rel => exact ⟨j + 1, by go_num, HJ'.out, by unfold Hid; rw [clR_dirty HMJ.out]; exact HR.out⟩
        case measure => simp [intOf]; omega
      | false =>
        rw [hmj] at HIX
        have HMJ : Hid (mk j = false) := hmj
        obtain ⟨own1, R1, S1⟩ := HR.out
        have hA := R1.last j hj
        have hA' : AnsAt wr b (48 + j * 5) (r.last j) (fun g => own1 g = 0) := hA
        obtain ⟨rv, k1, k2, k3⟩ := hA'.rs
        have a0 := hA'.f
        have a2 := hA'.k
        have a3 := hA'.n
        have a4 := hA'.s
        have HR1 : Hid (RR wr own1 b x (clR r mk j)) := R1
        have HS1 : Hid (RStep w own wr own1 b x) := S1
        have HK2 : Hid (RdSl wr rv (r.last j).rs) := k2
        have HK3 : Hid (∀ g, rv.ownBlock = some g → (own1 g = 0 ∨ own1 g = cR j)) := fun g hg => .inl (k3 g hg)
        clear HJ hmj R1 S1 hA hA' k2 k3 HR
        go_wp2_with ((refine wpList_index_run (P := Tryz.prog) ?_ 146 (.tmp 5) (.tmp 6) ?_ (.agg M) (.int .i64 j) (.bool false) ?_ ?_ ?_ ?_; (rfl); (rfl); (rfl); (rfl); (exact HIX.out _)))
        refine (settle_w wr own1 b x (clR r mk j) j (r.last j) rv hj HR1 HK2 HK3).mono ?_
        rintro e w2 ⟨rfl, h2⟩
        clear hj
        go_wp2_with fail
        go_roundw
        case rel => exact ⟨j + 1, by go_num, HJ'.out, by unfold Hid; rw [clR_clean HMJ.out]; exact RS.comp HS1.out h2.out⟩
        case measure => simp [intOf]; omega
    · have hge : ¬ (j : Int) < 48 := by omega
      have hj48 : j = 48 := by have := HJ.out; omega
      rw [hj48] at HR
      clear hj hj48 HJ
      go_wp2_with fail
      refine bodyPost_end (results_none rfl _ _ _) rfl ?_
      exact ⟨rfl, HR⟩
end Go.Proofs.YtlpmmmmniojflaaGreatDoor
