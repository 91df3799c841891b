/- The texts that the statements write. -/
import Derived.Test.YtiocnfambeochaaGreatDoorQ44
set_option linter.unusedVariables false
set_option linter.unusedSimpArgs false
namespace Go.Proofs.YtiocnfambeochaaGreatDoor
def dg3 (n : Nat) : List UInt8 := if n < 10 then [UInt8.ofNat (48 + n)] else if n < 100 then [UInt8.ofNat (48 + n / 10), UInt8.ofNat (48 + n % 10)] else [UInt8.ofNat (48 + n / 100), UInt8.ofNat (48 + n / 10 % 10), UInt8.ofNat (48 + n % 10)]
theorem dec_dg3 {n : Nat} (h : n < 1000) : Lib.decDigits n = dg3 n := by
  unfold dg3
  by_cases h1 : n < 10
  · rw [if_pos h1, Lib.decDigits, dif_pos h1]
  rw [if_neg h1, Lib.decDigits, dif_neg h1]
  by_cases h2 : n < 100
  · rw [if_pos h2, Lib.decDigits, dif_pos (by omega)]; rfl
  rw [if_neg h2, Lib.decDigits, dif_neg (by omega), Lib.decDigits, dif_pos (by omega), show n / 10 / 10 = n / 100 by omega]; rfl
def numC (n : Nat) : Bool := decide ((rd (dg3 n)).e = 0) && decide (plT (dg3 n) = dg3 n) && decide ((rdA (dg3 n)).ts.map kxT = [(1, dg3 n)]) && (rdA (dg3 n)).ts.all tokB && decide (valN (dg3 n) = n)
theorem num_all : (List.range 1000).all numC = true := by kernel_rfl
theorem txt_num {n : Nat} (h : n < 1000) : TxtOK ⟨(Lib.decDigits n).toArray⟩ (retA (vI n)) := by
  have hc := List.all_eq_true.1 num_all n (List.mem_range.2 h)
  unfold numC at hc
  simp only [Bool.and_eq_true, decide_eq_true_eq] at hc
  obtain ⟨⟨⟨⟨h1, h2⟩, h3⟩, h4⟩, h5⟩ := hc
  rw [dec_dg3 h]
  have hcg : CG 3 [tk 1 (dg3 n)] (retA (vI (valN (tk 1 (dg3 n)).x))) := cg_num rfl (by show valN (dg3 n) ≤ _; omega)
  have e : valN (tk 1 (dg3 n)).x = n := h5
  rw [e] at hcg
  refine txt_of (g := [tk 1 (dg3 n)]) ?_ h1 h2 (by rw [h3]; rfl) h4 (cg_form hcg)
  unfold dg3
  split
  · rfl
  · split <;> rfl
theorem cg_n (x : List UInt8) (n : Nat) (h : valN x = n) (hn : n ≤ 9223372036854775807) : CG 3 [tNum x] (retA (vI n)) := by
  have := cg_num (t := tNum x) rfl (by show valN x ≤ _; omega)
  have e : valN (tNum x).x = n := h
  rw [e] at this
  exact this
theorem cg_up2 {a : List Tk} {d : Beh} (h : CG 3 a d) : CG 2 a d := cg_lift (by omega) h
theorem cg_plus {a b : List Tk} {o : Tk} {da db : Beh} (ho : o.k ∈ signs 1) (ha : CG 3 a da) (hb : CG 3 b db) : CG 0 (a ++ o :: b) (binA (signOp o.k) da db) := cg_lift (by omega) (cg_two (lv := 1) (by omega) ho (cg_up2 ha) (cg_up2 hb))
def rdc (c : Nat) : Beh := readA ⟨c, false⟩
end Go.Proofs.YtiocnfambeochaaGreatDoor
