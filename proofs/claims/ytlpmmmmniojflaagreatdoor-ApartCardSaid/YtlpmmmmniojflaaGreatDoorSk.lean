/- A working out, walked: stays. -/
import Derived.Test.YtlpmmmmniojflaaGreatDoorSi
import Derived.Deep.RegionHeld3
import Derived.Deep.QuietTactic
import Derived.BigQuiet
set_option linter.unusedVariables false
set_option linter.unusedSimpArgs false
namespace Go.Proofs.YtlpmmmmniojflaaGreatDoor
open Go.RowKit
set_option maxRecDepth 100000 in
set_option maxHeartbeats 4000000 in
theorem stays_w (w : World) (own : Nat → Nat) (b x : Nat) (r : Rn) (c : Nat) (hc : c < 48) (h : Hid (RR w own b x r)) :
    Calls Tryz.prog 170 #[.pointer (some ⟨b, 0, none⟩), .int .i64 c] w fun e w' => e = .returned (.bool (stays r c)) ∧ Below w.heap.size w w' := by
  have hci : (c : Int) < 48 := by omega
  have hc0 : 0 ≤ (c : Int) := by omega
  have hA := h.out.last c hc
  have hf := h.out.fs c hc
  have a0 := hA.f
  have a2 := hA.k
  have a3 : w.cell? ⟨b, 48 + c * 5 + 2 + 1, none⟩ = _ := hA.n
  have a4 : w.cell? ⟨b, 48 + c * 5 + 2 + 2, none⟩ = _ := hA.s
  have hlt := h.out.lt
  have HST : Hid (stays r c = (decide ((r.last c).f = r.fs c) && !(r.last c).v.eqB cyc)) := rfl
  generalize r.fs c = f at *
  obtain ⟨⟨lf, lrs, lv⟩, hlast⟩ : ∃ a : Ans, r.last c = a := ⟨_, rfl⟩
  rw [hlast] at a0 a2 a3 a4 HST
  dsimp only at a0 a2 a3 a4 HST
  clear hlast hA
  by_cases hfe : lf = f
  · subst hfe
    have key := cmps lv cyc
    obtain ⟨B, hB⟩ : ∃ B, lv.eqB cyc = B := ⟨_, rfl⟩
    rw [hB] at key HST
    have HST' : Hid (stays r c = !B) := by unfold Hid; rw [HST.out]; simp
    clear hB HST
    rcases key with ⟨rfl, h1, h2, h3⟩ | ⟨rfl, h1⟩ | ⟨rfl, h1, h2⟩ | ⟨rfl, h1, h2, h3⟩
    all_goals
      go_enter Tryz.func170, Tryz.ntmps170
      go_wp2_with fail
      go_region_held3 (fun w' => w'.cell? ⟨b, 48 + c * 5, none⟩ = some (.string lf) ∧ w'.cell? ⟨b, c, none⟩ = some (.string lf) ∧ w'.cell? ⟨b, 48 + c * 5 + 2, none⟩ = some (.int .i64 lv.k) ∧ w'.cell? ⟨b, 48 + c * 5 + 2 + 1, none⟩ = some (.int .i64 lv.n) ∧ w'.cell? ⟨b, 48 + c * 5 + 2 + 2, none⟩ = some (.string lv.s)) (go_keep)
        (first | (go_at_call 177; refine (cycle_w _).mono ?_; unfold vV; rintro e w6 ⟨rfl, hb6⟩; have HB6 : Hid (Below w.heap.size w w6) := ((Below.refl _ _).drew).trans hb6; have q0 := (HB6.out.cell (p := ⟨b, 48 + c * 5, none⟩) hlt).trans a0; have q1 := (HB6.out.cell (p := ⟨b, c, none⟩) hlt).trans hf; have q2 := (HB6.out.cell (p := ⟨b, 48 + c * 5 + 2, none⟩) hlt).trans a2; have q3 := (HB6.out.cell (p := ⟨b, 48 + c * 5 + 2 + 1, none⟩) hlt).trans a3; have q4 := (HB6.out.cell (p := ⟨b, 48 + c * 5 + 2 + 2, none⟩) hlt).trans a4; clear hb6))
    all_goals
      go_wp2_with fail
      go_ret
      rw [HST'.out]
      exact ⟨rfl, HB6.out⟩
  · have hfl : ¬ lf.toList = f.toList := fun e => hfe (ba_list e)
    have HST' : Hid (stays r c = false) := by unfold Hid; rw [HST.out, decide_eq_false hfe]; rfl
    clear HST
    go_enter Tryz.func170, Tryz.ntmps170
    go_wp2_with fail
    have hfd : decide (lf.toList = f.toList) = false := decide_eq_false hfl
    go_quiet (fail)
    go_wp2_with fail
    go_ret
    rw [HST'.out]
    exact ⟨rfl, ⟨rfl, rfl, rfl, Nat.le_refl _, fun _ _ => rfl⟩⟩
end Go.Proofs.YtlpmmmmniojflaaGreatDoor
