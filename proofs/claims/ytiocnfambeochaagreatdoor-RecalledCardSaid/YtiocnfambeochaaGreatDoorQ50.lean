/- Texts put together. -/
import Derived.Test.YtiocnfambeochaaGreatDoorQ49
/- Plain mathematics: what comes of the statement Recalled. -/
set_option linter.unusedVariables false
set_option linter.unusedSimpArgs false
namespace Go.Proofs.YtiocnfambeochaaGreatDoor

theorem bindH_run {k : V → Beh} : ∀ (h1 h2 : List V) (d : Beh) (v : V), (∀ i, i < h1.length → ∃ nd, d (h1.take i) = .inr nd) → d h1 = .inl v → bindH k (h1 ++ h2) d = k v h2
  | [], h2, d, v, _, hv => by
    cases h2 with
    | nil => show bindH k [] d = _; unfold bindH; rw [hv]
    | cons x l => show bindH k (x :: l) d = _; unfold bindH; rw [hv]
  | x :: h1, h2, d, v, hp, hv => by
    obtain ⟨nd, h0⟩ := hp 0 (Nat.zero_lt_succ _)
    have h0 : d [] = .inr nd := h0
    show bindH k (x :: (h1 ++ h2)) d = _
    unfold bindH
    rw [h0]
    exact bindH_run h1 h2 _ v (fun i hi => hp (i + 1) (Nat.succ_lt_succ hi)) hv
theorem bindA_run {k : V → Beh} {d : Beh} {h : List V} {v : V} (hp : ∀ i, i < h.length → ∃ nd, d (h.take i) = .inr nd) (hv : d h = .inl v) : bindA d k h = k v [] := by
  have := bindH_run (k := k) h [] d v hp hv
  rw [List.append_nil] at this
  exact this
theorem three_run {d : Beh} {x y z : V} {n0 n1 n2 : Nd} (h0 : d [] = .inr n0) (h1 : d [x] = .inr n1) (h2 : d [x, y] = .inr n2) : ∀ i, i < [x, y, z].length → ∃ nd, d ([x, y, z].take i) = .inr nd
  | 0, _ => ⟨_, h0⟩
  | 1, _ => ⟨_, h1⟩
  | 2, _ => ⟨_, h2⟩
  | i + 3, h => absurd h (by simp)
theorem add_nat {n m : Nat} (h : n + m < 100000) : comb 5 (vI n) (vI m) = vI ((n + m : Nat) : Int) := by
  have h1 : comb 5 (vI n) (vI m) = vAdd (vI n) (vI m) := by unfold comb; rw [if_pos rfl]
  have h2 : vAdd (vI n) (vI m) = vNum ((n : Int) + m) := by unfold vAdd; rw [if_pos (by unfold vI; exact ⟨rfl, rfl⟩)]; unfold vI; rfl
  have h3 : inR ((n : Int) + m) = true := by unfold inR; exact decide_eq_true (by omega)
  rw [h1, h2]
  unfold vNum
  rw [if_pos h3, show ((n + m : Nat) : Int) = (n : Int) + m by omega]
def tDb (i : Nat) : ByteArray := ⟨#[UInt8.ofNat (48 + i), 32, 43, 32, UInt8.ofNat (48 + i)]⟩
def tRc (j : Nat) : ByteArray := ⟨#[65, UInt8.ofNat (49 + j), 32, 43, 32, 115, 117, 109, 40, 69, 49, 58, 70, 49, 41, 32, 43, 32, 49]⟩
def dRc (j : Nat) : Beh := binA 5 (binA 5 (rdc (6 * j)) (sumA [4, 5] (vI 0))) (retA (vI 1))
theorem ate {j : Nat} (h : j < 8) : j = 0 ∨ j = 1 ∨ j = 2 ∨ j = 3 ∨ j = 4 ∨ j = 5 ∨ j = 6 ∨ j = 7 := by omega
theorem svn {j : Nat} (h : j < 7) : j = 0 ∨ j = 1 ∨ j = 2 ∨ j = 3 ∨ j = 4 ∨ j = 5 ∨ j = 6 := by omega
theorem txt_db {i : Nat} (h : i < 8) : TxtOK (tDb i) (binA 5 (retA (vI i)) (retA (vI i))) := by
  rcases ate h with rfl | rfl | rfl | rfl | rfl | rfl | rfl | rfl
  · exact txt_of (l := [48, 32, 43, 32, 48]) (g := [tNum [48]] ++ tOp 0 :: [tNum [48]]) (by kernel_rfl) (by kernel_rfl) (by kernel_rfl) (by kernel_rfl) (by kernel_rfl) (cg_plus (o := tOp 0) (by decide) (cg_n [48] 0 rfl (by omega)) (cg_n [48] 0 rfl (by omega)))
  · exact txt_of (l := [49, 32, 43, 32, 49]) (g := [tNum [49]] ++ tOp 0 :: [tNum [49]]) (by kernel_rfl) (by kernel_rfl) (by kernel_rfl) (by kernel_rfl) (by kernel_rfl) (cg_plus (o := tOp 0) (by decide) (cg_n [49] 1 rfl (by omega)) (cg_n [49] 1 rfl (by omega)))
  · exact txt_of (l := [50, 32, 43, 32, 50]) (g := [tNum [50]] ++ tOp 0 :: [tNum [50]]) (by kernel_rfl) (by kernel_rfl) (by kernel_rfl) (by kernel_rfl) (by kernel_rfl) (cg_plus (o := tOp 0) (by decide) (cg_n [50] 2 rfl (by omega)) (cg_n [50] 2 rfl (by omega)))
  · exact txt_of (l := [51, 32, 43, 32, 51]) (g := [tNum [51]] ++ tOp 0 :: [tNum [51]]) (by kernel_rfl) (by kernel_rfl) (by kernel_rfl) (by kernel_rfl) (by kernel_rfl) (cg_plus (o := tOp 0) (by decide) (cg_n [51] 3 rfl (by omega)) (cg_n [51] 3 rfl (by omega)))
  · exact txt_of (l := [52, 32, 43, 32, 52]) (g := [tNum [52]] ++ tOp 0 :: [tNum [52]]) (by kernel_rfl) (by kernel_rfl) (by kernel_rfl) (by kernel_rfl) (by kernel_rfl) (cg_plus (o := tOp 0) (by decide) (cg_n [52] 4 rfl (by omega)) (cg_n [52] 4 rfl (by omega)))
  · exact txt_of (l := [53, 32, 43, 32, 53]) (g := [tNum [53]] ++ tOp 0 :: [tNum [53]]) (by kernel_rfl) (by kernel_rfl) (by kernel_rfl) (by kernel_rfl) (by kernel_rfl) (cg_plus (o := tOp 0) (by decide) (cg_n [53] 5 rfl (by omega)) (cg_n [53] 5 rfl (by omega)))
  · exact txt_of (l := [54, 32, 43, 32, 54]) (g := [tNum [54]] ++ tOp 0 :: [tNum [54]]) (by kernel_rfl) (by kernel_rfl) (by kernel_rfl) (by kernel_rfl) (by kernel_rfl) (cg_plus (o := tOp 0) (by decide) (cg_n [54] 6 rfl (by omega)) (cg_n [54] 6 rfl (by omega)))
  · exact txt_of (l := [55, 32, 43, 32, 55]) (g := [tNum [55]] ++ tOp 0 :: [tNum [55]]) (by kernel_rfl) (by kernel_rfl) (by kernel_rfl) (by kernel_rfl) (by kernel_rfl) (cg_plus (o := tOp 0) (by decide) (cg_n [55] 7 rfl (by omega)) (cg_n [55] 7 rfl (by omega)))
theorem cg_e1f1 : CG 3 [tSum, tOpen, tCell 4, tColon, tCell 5, tClose] (sumA [4, 5] (vI 0)) := by
  have h := cg_rsum (n := 4) (m := 5) (by omega) (by omega)
  rw [show rangeL 4 5 = [4, 5] from by decide] at h
  exact h
theorem txt_rc {j : Nat} (h : j < 7) : TxtOK (tRc j) (dRc j) := by
  rcases svn h with rfl | rfl | rfl | rfl | rfl | rfl | rfl
  · exact txt_of (l := [65, 49, 32, 43, 32, 115, 117, 109, 40, 69, 49, 58, 70, 49, 41, 32, 43, 32, 49]) (g := [tCell 0] ++ tOp 0 :: ([tSum, tOpen, tCell 4, tColon, tCell 5, tClose] ++ tOp 0 :: [tNum [49]])) (by kernel_rfl) (by kernel_rfl) (by kernel_rfl) (by kernel_rfl) (by kernel_rfl) (cg_lift (by omega) (cg_three (lv := 1) (o := tOp 0) (p := tOp 0) (by omega) (by decide) (by decide) (cg_up2 (cg_cell (by omega))) (cg_up2 cg_e1f1) (cg_up2 (cg_n [49] 1 rfl (by omega)))))
  · exact txt_of (l := [65, 50, 32, 43, 32, 115, 117, 109, 40, 69, 49, 58, 70, 49, 41, 32, 43, 32, 49]) (g := [tCell 6] ++ tOp 0 :: ([tSum, tOpen, tCell 4, tColon, tCell 5, tClose] ++ tOp 0 :: [tNum [49]])) (by kernel_rfl) (by kernel_rfl) (by kernel_rfl) (by kernel_rfl) (by kernel_rfl) (cg_lift (by omega) (cg_three (lv := 1) (o := tOp 0) (p := tOp 0) (by omega) (by decide) (by decide) (cg_up2 (cg_cell (by omega))) (cg_up2 cg_e1f1) (cg_up2 (cg_n [49] 1 rfl (by omega)))))
  · exact txt_of (l := [65, 51, 32, 43, 32, 115, 117, 109, 40, 69, 49, 58, 70, 49, 41, 32, 43, 32, 49]) (g := [tCell 12] ++ tOp 0 :: ([tSum, tOpen, tCell 4, tColon, tCell 5, tClose] ++ tOp 0 :: [tNum [49]])) (by kernel_rfl) (by kernel_rfl) (by kernel_rfl) (by kernel_rfl) (by kernel_rfl) (cg_lift (by omega) (cg_three (lv := 1) (o := tOp 0) (p := tOp 0) (by omega) (by decide) (by decide) (cg_up2 (cg_cell (by omega))) (cg_up2 cg_e1f1) (cg_up2 (cg_n [49] 1 rfl (by omega)))))
  · exact txt_of (l := [65, 52, 32, 43, 32, 115, 117, 109, 40, 69, 49, 58, 70, 49, 41, 32, 43, 32, 49]) (g := [tCell 18] ++ tOp 0 :: ([tSum, tOpen, tCell 4, tColon, tCell 5, tClose] ++ tOp 0 :: [tNum [49]])) (by kernel_rfl) (by kernel_rfl) (by kernel_rfl) (by kernel_rfl) (by kernel_rfl) (cg_lift (by omega) (cg_three (lv := 1) (o := tOp 0) (p := tOp 0) (by omega) (by decide) (by decide) (cg_up2 (cg_cell (by omega))) (cg_up2 cg_e1f1) (cg_up2 (cg_n [49] 1 rfl (by omega)))))
  · exact txt_of (l := [65, 53, 32, 43, 32, 115, 117, 109, 40, 69, 49, 58, 70, 49, 41, 32, 43, 32, 49]) (g := [tCell 24] ++ tOp 0 :: ([tSum, tOpen, tCell 4, tColon, tCell 5, tClose] ++ tOp 0 :: [tNum [49]])) (by kernel_rfl) (by kernel_rfl) (by kernel_rfl) (by kernel_rfl) (by kernel_rfl) (cg_lift (by omega) (cg_three (lv := 1) (o := tOp 0) (p := tOp 0) (by omega) (by decide) (by decide) (cg_up2 (cg_cell (by omega))) (cg_up2 cg_e1f1) (cg_up2 (cg_n [49] 1 rfl (by omega)))))
  · exact txt_of (l := [65, 54, 32, 43, 32, 115, 117, 109, 40, 69, 49, 58, 70, 49, 41, 32, 43, 32, 49]) (g := [tCell 30] ++ tOp 0 :: ([tSum, tOpen, tCell 4, tColon, tCell 5, tClose] ++ tOp 0 :: [tNum [49]])) (by kernel_rfl) (by kernel_rfl) (by kernel_rfl) (by kernel_rfl) (by kernel_rfl) (cg_lift (by omega) (cg_three (lv := 1) (o := tOp 0) (p := tOp 0) (by omega) (by decide) (by decide) (cg_up2 (cg_cell (by omega))) (cg_up2 cg_e1f1) (cg_up2 (cg_n [49] 1 rfl (by omega)))))
  · exact txt_of (l := [65, 55, 32, 43, 32, 115, 117, 109, 40, 69, 49, 58, 70, 49, 41, 32, 43, 32, 49]) (g := [tCell 36] ++ tOp 0 :: ([tSum, tOpen, tCell 4, tColon, tCell 5, tClose] ++ tOp 0 :: [tNum [49]])) (by kernel_rfl) (by kernel_rfl) (by kernel_rfl) (by kernel_rfl) (by kernel_rfl) (cg_lift (by omega) (cg_three (lv := 1) (o := tOp 0) (p := tOp 0) (by omega) (by decide) (by decide) (cg_up2 (cg_cell (by omega))) (cg_up2 cg_e1f1) (cg_up2 (cg_n [49] 1 rfl (by omega)))))
theorem dec_1000 : Lib.decDigits 1000 = [49, 48, 48, 48] := by
  rw [Lib.decDigits, dif_neg (by omega), show 1000 / 10 = 100 from rfl, dec_dg3 (n := 100) (by omega)]; rfl
theorem txt_num1 {n : Nat} (h : n ≤ 1000) : TxtOK (nT n) (retA (vI n)) := by
  by_cases h1 : n < 1000
  · exact txt_num h1
  · have e : n = 1000 := by omega
    subst e
    unfold nT
    rw [dec_1000]
    exact txt_of (l := [49, 48, 48, 48]) (g := [tNum [49, 48, 48, 48]]) (by kernel_rfl) (by kernel_rfl) (by kernel_rfl) (by kernel_rfl) (by kernel_rfl) (cg_form (cg_n [49, 48, 48, 48] 1000 rfl (by omega)))
theorem nT_size1 {n : Nat} (h : n ≤ 1000) : (nT n).size ≤ 4 := by
  by_cases h1 : n < 1000
  · have := nT_size h1; omega
  · have e : n = 1000 := by omega
    subst e
    show (Lib.decDigits 1000).toArray.size ≤ 4
    rw [dec_1000]; decide
theorem nT_inj {E : Env} (hE : EnvOK E) {a b : Nat} (ha : a ≤ 1000) (hb : b ≤ 1000) (h : nT a = nT b) : a = b := by
  have h1 := (txt_num1 ha).D hE
  have h2 := (txt_num1 hb).D hE
  rw [h, h2] at h1
  have h3 := congrFun h1 []
  have h4 : (Sum.inl (vI b) : Sum V Nd) = .inl (vI a) := h3
  have h5 : (b : Int) = a := congrArg V.n (Sum.inl.inj h4)
  omega
/-- The sheet of the statement. -/
def rcG (m n : Nat) (t : ByteArray) : Nat → ByteArray := fun c =>
  if c % 6 = 5 ∧ c / 6 < m then tDb (c / 6) else if c % 6 = 0 ∧ 1 ≤ c / 6 ∧ c / 6 ≤ n then tRc (c / 6 - 1) else if c = 0 then t else eB
theorem rcG_start : fs0 = rcG 0 0 eB := by
  funext c
  unfold rcG fs0
  rw [if_neg (by omega), if_neg (by omega)]
  split <;> rfl
theorem rcG_db {m : Nat} : updF (rcG m 0 eB) (6 * m + 5) (tDb m) = rcG (m + 1) 0 eB := by
  funext c
  unfold updF rcG
  by_cases h : c = 6 * m + 5
  · rw [if_pos h, if_pos ⟨by omega, by omega⟩, show c / 6 = m by omega]
  · rw [if_neg h]
    have e : (c % 6 = 5 ∧ c / 6 < m + 1) = (c % 6 = 5 ∧ c / 6 < m) := propext ⟨fun hh => ⟨hh.1, by omega⟩, fun hh => ⟨hh.1, by omega⟩⟩
    simp only [e]
theorem rcG_ch {n : Nat} {t : ByteArray} : updF (rcG 8 n t) (6 * (n + 1)) (tRc n) = rcG 8 (n + 1) t := by
  funext c
  unfold updF rcG
  by_cases h : c = 6 * (n + 1)
  · rw [if_pos h, if_neg (by omega), if_pos ⟨by omega, by omega, by omega⟩, show c / 6 - 1 = n by omega]
  · rw [if_neg h]
    have e : (c % 6 = 0 ∧ 1 ≤ c / 6 ∧ c / 6 ≤ n + 1) = (c % 6 = 0 ∧ 1 ≤ c / 6 ∧ c / 6 ≤ n) := propext ⟨fun hh => ⟨hh.1, hh.2.1, by omega⟩, fun hh => ⟨hh.1, hh.2.1, by omega⟩⟩
    simp only [e]
theorem rcG_num {n : Nat} {t u : ByteArray} : updF (rcG 8 n t) 0 u = rcG 8 n u := by
  funext c
  unfold updF rcG
  by_cases h : c = 0
  · rw [if_pos h, if_neg (by omega), if_neg (by omega), if_pos h]
  · rw [if_neg h]
    simp only [if_neg h]
/-- The formula of a cell of the chain; what it reads. -/
def rcT (v : Nat) : Nat → ByteArray
  | 0 => nT v
  | j + 1 => tRc j
def rcR (v : Nat) : Nat → List Rd
  | 0 => []
  | j + 1 => [⟨⟨6 * j, false⟩, vI ((v + j : Nat) : Int)⟩, ⟨⟨4, false⟩, vI 0⟩, ⟨⟨5, false⟩, vI 0⟩]
section
variable {n v : Nat} {t : ByteArray}
theorem rcG_c {i : Nat} (hi : i ≤ n) : rcG 8 n (nT v) (6 * i) = rcT v i := by
  unfold rcG
  rw [if_neg (by omega)]
  cases i with
  | zero => rw [if_neg (by omega), if_pos (by omega)]; rfl
  | succ j => rw [if_pos ⟨by omega, by omega, by omega⟩, show 6 * (j + 1) / 6 - 1 = j by omega]; rfl
theorem rcG_f {m n : Nat} {t : ByteArray} {i : Nat} (hi : i < m) : rcG m n t (6 * i + 5) = tDb i := by
  unfold rcG
  rw [if_pos ⟨by omega, by omega⟩, show (6 * i + 5) / 6 = i by omega]
theorem rcG_4 {m n : Nat} {t : ByteArray} : rcG m n t 4 = eB := by
  unfold rcG
  rw [if_neg (by omega), if_neg (by omega), if_neg (by omega)]
/-- Which cells there are. -/
theorem rcG_cases {c : Nat} (h : rcG 8 n t c ≠ eB) : (∃ i, i < 8 ∧ c = 6 * i + 5) ∨ ∃ i, i ≤ n ∧ c = 6 * i := by
  unfold rcG at h
  split at h
  · rename_i g; exact .inl ⟨c / 6, g.2, by omega⟩
  · split at h
    · rename_i g; exact .inr ⟨c / 6, g.2.2, by omega⟩
    · split at h
      · rename_i g; exact .inr ⟨0, Nat.zero_le _, by omega⟩
      · exact absurd rfl h
theorem fsT_rc {m n : Nat} {t : ByteArray} (hm : m ≤ 8) (hn : n ≤ 7) (ht : t = eB ∨ ∃ d, TxtOK t d) : FsT (rcG m n t) := by
  refine ⟨fun c hc => ?_, fun c hc => ?_⟩
  · unfold rcG at hc ⊢
    split
    · rename_i g; exact ⟨_, txt_db (by omega)⟩
    · split
      · rename_i g; exact ⟨_, txt_rc (by omega)⟩
      · split
        · rename_i g1 g2 g3
          rw [if_neg g1, if_neg g2, if_pos g3] at hc
          rcases ht with h | h
          · exact absurd h hc
          · exact h
        · rename_i g1 g2 g3
          rw [if_neg g1, if_neg g2, if_neg g3] at hc
          exact absurd rfl hc
  · unfold rcG
    rw [if_neg (by omega), if_neg (by omega), if_neg (by omega)]
theorem db_size (i : Nat) : (tDb i).size = 5 := rfl
theorem rc_size (j : Nat) : (tRc j).size = 19 := rfl
theorem eB_size : eB.size = 0 := rfl
theorem rc_inj {i j : Nat} (hi : i < 7) (hj : j < 7) (h : tRc i = tRc j) : i = j := by
  have h1 := congrArg (fun b : ByteArray => b.data.toList) h
  have h2 : [(65 : UInt8), UInt8.ofNat (49 + i), 32, 43, 32, 115, 117, 109, 40, 69, 49, 58, 70, 49, 41, 32, 43, 32, 49] = [(65 : UInt8), UInt8.ofNat (49 + j), 32, 43, 32, 115, 117, 109, 40, 69, 49, 58, 70, 49, 41, 32, 43, 32, 49] := h1
  have h3 := (List.cons.inj (List.cons.inj h2).2).1
  have h4 : (UInt8.ofNat (49 + i)).toNat = (UInt8.ofNat (49 + j)).toNat := by rw [h3]
  simp at h4
  omega
theorem rcT_ne {v i : Nat} (hv : v ≤ 1000) (hi : i ≤ 7) : rcT v i ≠ eB := by
  cases i with
  | zero => exact (txt_num1 hv).ne
  | succ j => exact (txt_rc (j := j) (by omega)).ne
theorem db_ne {v i m : Nat} (hv : v ≤ 1000) : tDb m ≠ rcT v i := by
  intro e
  cases i with
  | zero => have := nT_size1 hv; have h := congrArg ByteArray.size e; rw [db_size] at h; have h : 5 = (nT v).size := h; omega
  | succ j => have h := congrArg ByteArray.size e; rw [db_size] at h; have h : 5 = (tRc j).size := h; rw [rc_size] at h; omega
theorem num_rc {v j : Nat} (hv : v ≤ 1000) : nT v ≠ tRc j := fun e => by
  have := nT_size1 hv
  rw [e, rc_size] at this
  omega
/-- No two cells have the same formula, one of them in the chain. -/
theorem rc_one (hv : v ≤ 1000) (hn : n ≤ 7) {i c : Nat} (hi : i ≤ n) (h : rcG 8 n (nT v) c = rcT v i) : c = 6 * i := by
  have h0 : rcG 8 n (nT v) c ≠ eB := by rw [h]; exact rcT_ne hv (by omega)
  rcases rcG_cases h0 with ⟨m, hm, rfl⟩ | ⟨m, hm, rfl⟩
  · rw [rcG_f hm] at h; exact absurd h (db_ne hv)
  · rw [rcG_c hm] at h
    cases i with
    | zero =>
      cases m with
      | zero => rfl
      | succ m => exact absurd h.symm (num_rc hv)
    | succ i =>
      cases m with
      | zero => exact absurd h (num_rc hv)
      | succ m => rw [rc_inj (i := m) (j := i) (by omega) (by omega) h]
variable {E : Env} {val : Nat → V}
theorem i_ne (n : Int) : vI n ≠ cyc := by unfold cyc vE vI; simp
theorem rc_vf (hE : EnvOK E) {m n : Nat} {t : ByteArray} (hv : ∀ c, Val E.D (rcG m n t) c (val c)) {i : Nat} (hi : i < m) (h8 : i < 8) : val (6 * i + 5) = vI ((i + i : Nat) : Int) := by
  refine (val_of hv (c := 6 * i + 5) (by rw [rcG_f hi]; exact (txt_db h8).ne) (rs := []) trivial (Hold.nil _) ?_).1
  rw [rcG_f hi, (txt_db h8).D hE]
  show Sum.inl (comb 5 (vI i) (vI i)) = _
  rw [add_nat (by omega)]
theorem rc_rsf (hE : EnvOK E) {m n : Nat} {t : ByteArray} {k : Kp} (hk : KInv E (rcG m n t) k) {i : Nat} (hi : i < m) (h8 : i < 8) : (k.last (6 * i + 5)).rs = [] := by
  refine hk.rs (c := 6 * i + 5) (v := vI ((i + i : Nat) : Int)) (by rw [rcG_f hi]; exact (txt_db h8).ne) trivial ?_ (Hold.nil _) (by rw [rc_vf hE hk.v hi h8]; exact i_ne _)
  rw [rcG_f hi, (txt_db h8).D hE]
  show Sum.inl (comb 5 (vI i) (vI i)) = _
  rw [add_nat (by omega)]
theorem rc_tr (j u : Nat) (hu : u < 2000) : Tr (bindA (dRc j) retA) [⟨⟨6 * j, false⟩, vI (u : Int)⟩, ⟨⟨4, false⟩, vI 0⟩, ⟨⟨5, false⟩, vI 0⟩] ∧ bindA (dRc j) retA [vI (u : Int), vI 0, vI 0] = .inl (vI ((u + 1 : Nat) : Int)) := by
  refine ⟨⟨rfl, rfl, rfl, trivial⟩, ?_⟩
  have e1 : binA 5 (rdc (6 * j)) (sumA [4, 5] (vI 0)) [vI (u : Int), vI 0, vI 0] = .inl (vI (u : Int)) := by
    show Sum.inl (comb 5 (vI (u : Int)) (vI 0)) = _
    have := add_nat (n := u) (m := 0) (by omega)
    rw [show (vI ((0 : Nat) : Int)) = vI 0 from rfl] at this
    rw [this]; rfl
  have e2 : dRc j [vI (u : Int), vI 0, vI 0] = .inl (vI ((u + 1 : Nat) : Int)) := by
    unfold dRc
    rw [binA, bindE]
    rw [bindA_run (three_run rfl rfl rfl) e1]
    show Sum.inl (comb 5 (vI (u : Int)) (vI 1)) = _
    have := add_nat (n := u) (m := 1) (by omega)
    rw [show (vI ((1 : Nat) : Int)) = vI 1 from rfl] at this
    rw [this]
  rw [bindA_run (three_run rfl rfl rfl) e2]
  rfl
theorem see_n (c : Nat) : see ⟨c, false⟩ vN = vI 0 := rfl
theorem see_i (c : Nat) (n : Int) : see ⟨c, false⟩ (vI n) = vI n := rfl
theorem rc_vals (hE : EnvOK E) (hv1 : v ≤ 1000) (hn : n ≤ 7) (hv : ∀ c, Val E.D (rcG 8 n (nT v)) c (val c)) : ∀ i, i ≤ n → val (6 * i) = vI ((v + i : Nat) : Int) ∧ Hold val (rcR v i)
  | 0, _ => by
    refine ⟨?_, Hold.nil _⟩
    have e := rcG_c (n := n) (v := v) (i := 0) (Nat.zero_le _)
    refine (val_of hv (c := 6 * 0) (by rw [e]; exact rcT_ne hv1 (by omega)) (rs := []) trivial (Hold.nil _) ?_).1
    rw [e]
    show E.D (nT v) [] = _
    rw [(txt_num1 hv1).D hE]; rfl
  | j + 1, hi => by
    obtain ⟨ih, _⟩ := rc_vals hE hv1 hn hv j (by omega)
    have e := rcG_c (n := n) (v := v) (i := j + 1) hi
    have h4 : val 4 = vN := (hv 4).none rcG_4
    have h5 : val 5 = vI 0 := rc_vf hE hv (i := 0) (by omega) (by omega)
    have hh : Hold val (rcR v (j + 1)) := by
      intro r hr
      unfold rcR at hr
      simp only [List.mem_cons, List.not_mem_nil, or_false] at hr
      rcases hr with rfl | rfl | rfl
      · rw [ih]; exact ⟨rfl, i_ne _⟩
      · rw [h4]; exact ⟨rfl, by unfold cyc vE vN; simp⟩
      · rw [h5]; exact ⟨rfl, i_ne _⟩
    have ht := rc_tr j (v + j) (by omega)
    rw [← (txt_rc (j := j) (by omega)).D hE] at ht
    refine ⟨(val_of hv (c := 6 * (j + 1)) (by rw [e]; exact rcT_ne hv1 (by omega)) (rs := rcR v (j + 1)) ?_ hh ?_).1, hh⟩
    · rw [e]; exact ht.1
    · rw [e]; exact ht.2
theorem rc_last (hE : EnvOK E) (hv1 : v ≤ 1000) (hn : n ≤ 7) {k : Kp} (hk : KInv E (rcG 8 n (nT v)) k) {i : Nat} (hi : i ≤ n) : (k.last (6 * i)).f = rcT v i ∧ (k.last (6 * i)).rs = rcR v i := by
  obtain ⟨h1, h2⟩ := rc_vals hE hv1 hn hk.v i hi
  have e := rcG_c (n := n) (v := v) hi
  refine ⟨by rw [hk.f, e], ?_⟩
  refine hk.rs (c := 6 * i) (v := vI ((v + i : Nat) : Int)) (by rw [e]; exact rcT_ne hv1 (by omega)) ?_ ?_ h2 (by rw [h1]; exact i_ne _)
  · rw [e]
    cases i with
    | zero => trivial
    | succ j => show Tr (E.D (tRc j)) _; rw [(txt_rc (j := j) (by omega)).D hE]; exact (rc_tr j (v + j) (by omega)).1
  · rw [e]
    cases i with
    | zero => show E.D (nT v) [] = _; rw [(txt_num1 hv1).D hE]; rfl
    | succ j => show E.D (tRc j) _ = _; rw [(txt_rc (j := j) (by omega)).D hE]; exact (rc_tr j (v + j) (by omega)).2
/-- What was read by one number does not hold by another. -/
theorem rc_off (hE : EnvOK E) {a : Nat} (hv1 : v ≤ 1000) (hn : n ≤ 7) (hv : ∀ c, Val E.D (rcG 8 n (nT v)) c (val c)) (hne : a ≠ v) {j : Nat} (hj : j + 1 ≤ n) : ¬ Hold val (rcR a (j + 1)) := fun h => by
  obtain ⟨h1, _⟩ := rc_vals hE hv1 hn hv j (by omega)
  have h2 := (h ⟨⟨6 * j, false⟩, vI ((a + j : Nat) : Int)⟩ List.mem_cons_self).1
  have h3 : vI ((a + j : Nat) : Int) = see ⟨6 * j, false⟩ (val (6 * j)) := h2
  rw [h1, see_i] at h3
  have h4 : ((a + j : Nat) : Int) = ((v + j : Nat) : Int) := congrArg V.n h3
  omega
theorem rc_idle (hE : EnvOK E) (hv1 : v ≤ 1000) (hn : n ≤ 7) {t : ByteArray} {m : Nat} {k k' : Kp} {o : Nat} {bg : List Nat} (hk : KInv E (rcG 8 m t) k) (ho : o < 3) (h : WorkP E k (rcG 8 n (nT v)) o 2 k' bg) : ∀ c ∈ bg, c ∈ (List.range (n + 1)).map (fun i => 6 * i) := by
  have hf := fsT_rc (m := 8) (n := n) (t := nT v) (by omega) hn (.inr ⟨_, txt_num1 hv1⟩)
  intro c hc
  rcases rcG_cases (h.bgOK hE hk hf ho c hc).2 with ⟨i, hi, rfl⟩ | ⟨i, hi, rfl⟩
  · refine absurd hc (h.idle hE hk hf ho (by rw [hk.f, rcG_f hi, rcG_f hi]) (by rw [rc_vf hE hk.v hi hi]; exact i_ne _) (fun _ => ?_) (fun h0 => absurd h0 (by decide)))
    rw [rc_rsf hE hk hi hi]; exact Hold.nil _
  · exact List.mem_map.2 ⟨i, List.mem_range.2 (by omega), rfl⟩
theorem has_fold : ∀ (l : List Ans) (s : Sto), SW s → ∀ x, x ∈ (l.foldl Sto.add s).has → x ∈ s.has ∨ x ∈ l
  | [], s, _, x, h => .inl h
  | a :: l, s, hs, x, h => by
    rcases has_fold l (s.add a) (add_sw hs a) x h with g | g
    · rcases has_add hs g with e | e
      · exact .inr (by rw [e]; exact List.mem_cons_self)
      · exact .inl e
    · exact .inr (List.mem_cons_of_mem _ g)
/-- What is known ahead of the second turn. -/
structure Rc1 (E : Env) (n a : Nat) (k : Kp) : Prop where
  kinv : KInv E (rcG 8 n (nT a)) k
  pl : k.store.places = 2 * (n + 1)
  l : ∃ l : List Ans, l.length ≤ n + 1 ∧ Rec k.store l ∧ ∀ i, i ≤ n → ∃ x ∈ l, x.f = rcT a i ∧ x.rs = rcR a i
  only : ∀ x ∈ k.store.has, (∃ i, x.f = tDb i) ∨ ∃ i, i ≤ n ∧ x.f = rcT a i ∧ x.rs = rcR a i
/-- What is known ahead of the others. -/
structure Rc2 (E : Env) (n a b v : Nat) (k : Kp) : Prop where
  kinv : KInv E (rcG 8 n (nT v)) k
  a : ∀ i, i ≤ n → ∃ x ∈ k.store.has, x.f = rcT a i ∧ x.rs = rcR a i
  b : ∀ i, i ≤ n → ∃ x ∈ k.store.has, x.f = rcT b i ∧ x.rs = rcR b i
theorem in_c {n c : Nat} (h : c ∈ (List.range (n + 1)).map (fun i => 6 * i)) : ∃ i, i ≤ n ∧ c = 6 * i := by
  obtain ⟨i, hi, e⟩ := List.mem_map.1 h
  exact ⟨i, by have := List.mem_range.1 hi; omega, e.symm⟩
theorem rc_fresh (hE : EnvOK E) (hv1 : v ≤ 1000) (hn : n ≤ 7) {t : ByteArray} {m : Nat} {k k' : Kp} {o : Nat} {bg : List Nat} (hk : KInv E (rcG 8 m t) k) (ho : o < 3) (h : WorkP E k (rcG 8 n (nT v)) o 2 k' bg) (h0 : rcG 8 m t 0 ≠ nT v)
    (hno : ∀ i, i ≤ n → ∀ a, a.f = rcT v i → (a = k.last (6 * i) ∨ a ∈ k.store.has) → ¬ Hold (fun c => (k'.last c).v) a.rs) :
    ∃ l : List Ans, l.length ≤ n + 1 ∧ k'.store = l.foldl Sto.add k.store ∧ (∀ i, i ≤ n → k'.last (6 * i) ∈ l) ∧ ∀ a ∈ l, ∃ i, i ≤ n ∧ a = k'.last (6 * i) := by
  have hf := fsT_rc (m := 8) (n := n) (t := nT v) (by omega) hn (.inr ⟨_, txt_num1 hv1⟩)
  have hk' := h.inv hE hk hf ho
  have hw : ¬ workedP k (rcG 8 n (nT v)) := fun hw => by
    have := hw 0 (by omega)
    rw [hk.f] at this
    rw [rcG_c (n := n) (v := v) (i := 0) (Nat.zero_le _)] at this
    exact h0 this
  obtain ⟨l, l1, l2, l3, l4⟩ := h.fresh hE hk hf ho hw (by decide) (C := (List.range (n + 1)).map (fun i => 6 * i)) (fun c hc => by
      obtain ⟨i, hi, rfl⟩ := in_c hc
      rw [rcG_c hi]; exact rcT_ne hv1 (by omega)) (fun c hc i' hi' => by
      obtain ⟨i, hi, rfl⟩ := in_c hc
      rw [rcG_c hi] at hi'
      exact rc_one hv1 hn hi hi') (rc_idle hE hv1 hn hk ho h) (fun c hc a ha ha' => by
      obtain ⟨i, hi, rfl⟩ := in_c hc
      rw [rcG_c hi] at ha
      exact hno i hi a ha ha') (fun c hc => by
      obtain ⟨i, hi, rfl⟩ := in_c hc
      rw [(rc_vals hE hv1 hn hk'.v i hi).1]; exact i_ne _)
  refine ⟨l, by simpa using l1, l2, fun i hi => l3 _ (List.mem_map.2 ⟨i, List.mem_range.2 (by omega), rfl⟩), fun a ha => ?_⟩
  obtain ⟨c, hc, e⟩ := l4 a ha
  obtain ⟨i, hi, rfl⟩ := in_c hc
  exact ⟨i, hi, e⟩
theorem rc_turn0 (hE : EnvOK E) {a : Nat} (ha : a ≤ 1000) (hn : n ≤ 7) {k k' : Kp} {o : Nat} {bg : List Nat} (hk : KInv E (rcG 8 0 eB) k) (hp : k.store.places = 2 * (n + 1)) (hs : ∀ x ∈ k.store.has, ∃ i, x.f = tDb i) (ho : o < 3) (h : WorkP E k (rcG 8 n (nT a)) o 2 k' bg) : Rc1 E n a k' := by
  have hf := fsT_rc (m := 8) (n := n) (t := nT a) (by omega) hn (.inr ⟨_, txt_num1 ha⟩)
  have hk' := h.inv hE hk hf ho
  have hempty : ∀ i, rcG 8 0 eB (6 * i) = eB := fun i => by
    unfold rcG
    rw [if_neg (by omega), if_neg (by omega)]
    split <;> rfl
  obtain ⟨l, l1, l2, l3, l4⟩ := rc_fresh hE ha hn hk ho h (by have := hempty 0; rw [show 6 * 0 = 0 from rfl] at this; rw [this]; exact fun e => (txt_num1 ha).ne e.symm) (fun i hi x hx hx' => by
    rcases hx' with rfl | hx'
    · rw [hk.f, hempty] at hx
      exact absurd hx.symm (rcT_ne ha (by omega))
    · obtain ⟨m, hm⟩ := hs x hx'
      rw [hm] at hx
      exact absurd hx (db_ne ha))
  obtain ⟨r1, r2, r3⟩ := Rec.fold l [] k.store hk.sw (rec_nil _) (by rw [hp]; show 0 + l.length ≤ _; omega)
  rw [← l2] at r1 r2 r3
  rw [List.append_nil] at r2
  refine ⟨hk', by rw [r3, hp], ⟨l.reverse, by rw [List.length_reverse]; exact l1, r2, fun i hi => ⟨_, List.mem_reverse.2 (l3 i hi), rc_last hE ha hn hk' hi⟩⟩, fun x hx => ?_⟩
  rw [l2] at hx
  rcases has_fold l k.store hk.sw x hx with g | g
  · exact .inl (hs x g)
  · obtain ⟨i, hi, rfl⟩ := l4 x g
    exact .inr ⟨i, hi, rc_last hE ha hn hk' hi⟩
theorem rc_turn1 (hE : EnvOK E) {a b : Nat} (ha : a ≤ 1000) (hb : b ≤ 1000) (hab : a ≠ b) (hn : n ≤ 7) {k k' : Kp} {o : Nat} {bg : List Nat} (hk : Rc1 E n a k) (ho : o < 3) (h : WorkP E k (rcG 8 n (nT b)) o 2 k' bg) : Rc2 E n a b b k' := by
  have hf := fsT_rc (m := 8) (n := n) (t := nT b) (by omega) hn (.inr ⟨_, txt_num1 hb⟩)
  have hk' := h.inv hE hk.kinv hf ho
  have noneA : ∀ i, i ≤ n → ∀ x : Ans, x.f = rcT b i → (∃ i', i' ≤ n ∧ x.f = rcT a i' ∧ x.rs = rcR a i') → ¬ Hold (fun c => (k'.last c).v) x.rs := fun i hi x hx hx' hh => by
    obtain ⟨i', hi', e1, e2⟩ := hx'
    rw [hx] at e1
    cases i' with
    | zero =>
      cases i with
      | zero => exact hab (nT_inj hE hb ha e1).symm
      | succ j => exact num_rc ha e1.symm
    | succ j' =>
      rw [e2] at hh
      exact rc_off hE hb hn hk'.v hab hi' hh
  obtain ⟨l, l1, l2, l3, l4⟩ := rc_fresh hE hb hn hk.kinv ho h (by
    rw [show rcG 8 n (nT a) 0 = rcT a 0 from rcG_c (n := n) (v := a) (i := 0) (Nat.zero_le _)]
    exact fun e => hab (nT_inj hE ha hb e)) (fun i hi x hx hx' => by
    rcases hx' with rfl | hx'
    · exact noneA i hi _ hx ⟨i, hi, rc_last hE ha hn hk.kinv hi⟩
    · rcases hk.only x hx' with ⟨m, hm⟩ | g
      · rw [hm] at hx
        exact absurd hx (db_ne hb)
      · exact noneA i hi x hx g)
  obtain ⟨l0, m1, m2, m3⟩ := hk.l
  obtain ⟨r1, r2, r3⟩ := Rec.fold l l0 k.store hk.kinv.sw m2 (by rw [hk.pl]; omega)
  rw [← l2] at r1 r2 r3
  refine ⟨hk', fun i hi => ?_, fun i hi => ?_⟩
  · obtain ⟨x, hx, e⟩ := m3 i hi
    exact ⟨x, r2.mem r1 (List.mem_append_right _ hx), e⟩
  · exact ⟨_, r2.mem r1 (List.mem_append_left _ (List.mem_reverse.2 (l3 i hi))), rc_last hE hb hn hk' hi⟩
theorem rc_turn2 (hE : EnvOK E) {a b u : Nat} (hu : u ≤ 1000) (hv1 : v = a ∨ v = b) (hv2 : v ≤ 1000) (hn : n ≤ 7) {k k' : Kp} {o : Nat} {bg : List Nat} (hk : Rc2 E n a b u k) (ho : o < 3) (h : WorkP E k (rcG 8 n (nT v)) o 2 k' bg) : bg = [] ∧ Rc2 E n a b v k' := by
  have hf := fsT_rc (m := 8) (n := n) (t := nT v) (by omega) hn (.inr ⟨_, txt_num1 hv2⟩)
  have hk' := h.inv hE hk.kinv hf ho
  obtain ⟨g1, g2⟩ := h.recall hE hk.kinv hf ho (fun c hc => by
    rcases rcG_cases hc with ⟨i, hi, rfl⟩ | ⟨i, hi, rfl⟩
    · refine ⟨_, by rw [hk.kinv.f, rcG_f hi, rcG_f hi], ?_, .inl ⟨rfl, by rw [rc_vf hE hk.kinv.v hi hi]; exact i_ne _⟩⟩
      rw [rc_rsf hE hk.kinv hi hi]; exact Hold.nil _
    · have hh := (rc_vals hE hv2 hn hk'.v i hi).2
      rcases hv1 with rfl | rfl
      · obtain ⟨x, x1, x2, x3⟩ := hk.a i hi
        exact ⟨x, by rw [x2, rcG_c hi], by rw [x3]; exact hh, .inr x1⟩
      · obtain ⟨x, x1, x2, x3⟩ := hk.b i hi
        exact ⟨x, by rw [x2, rcG_c hi], by rw [x3]; exact hh, .inr x1⟩)
  exact ⟨g1, hk', by rw [g2]; exact hk.a, by rw [g2]; exact hk.b⟩
end
end Go.Proofs.YtiocnfambeochaaGreatDoor

/- Names of the first column, small numbers; calls on a sheet whose answer is known. -/
set_option linter.unusedVariables false
set_option linter.unusedSimpArgs false
namespace Go.Proofs.YtiocnfambeochaaGreatDoor
open Go.RowKit

def nA (j : Nat) : ByteArray := ⟨#[65, UInt8.ofNat (49 + j)]⟩
theorem eight {j : Nat} (h : j < 8) : j = 0 ∨ j = 1 ∨ j = 2 ∨ j = 3 ∨ j = 4 ∨ j = 5 ∨ j = 6 ∨ j = 7 := by omega
theorem name_w {j : Nat} (h : j < 8) (w : World) : Calls Tryz.prog 24 #[.int .i64 (6 * (j : Int))] w fun e w' => e = .returned (.string (nA j)) ∧ Below w.heap.size w w' := by
  have := name_any (6 * j) (by omega) w
  rw [show ((6 * j : Nat) : Int) = 6 * (j : Int) by omega] at this
  refine this.mono ?_
  rintro e w' ⟨rfl, hb⟩
  refine ⟨?_, hb⟩
  unfold nmT nA
  rw [show 6 * j % 6 = 0 by omega, show 6 * j / 6 = j by omega]
  rfl
theorem nA_cell {j : Nat} (h : j < 8) : cellN (nA j).data.toList = some (6 * j) := by
  rcases eight h with rfl | rfl | rfl | rfl | rfl | rfl | rfl | rfl <;> decide
theorem meas {a b : Int} (h : a < b) (h1 : b ≤ 100) : (100 - b).toNat < (100 - a).toNat := by omega
/-- Numbers of a ring's cell. -/
structure Num7 (i : Nat) : Prop where
  m1 : IntKind.i64.wrap (6 * (i : Int)) = 6 * (i : Int)
  m2 : wrap64 (6 * (i : Int)) = 6 * (i : Int)
  p1 : IntKind.i64.wrap ((i : Int) + 1) = (i : Int) + 1
  p2 : wrap64 ((i : Int) + 1) = (i : Int) + 1
  s1 : IntKind.i64.wrap (i : Int) = (i : Int)
  s2 : wrap64 (i : Int) = (i : Int)
theorem num7 {i : Nat} (h : i < 8) : Num7 i := ⟨by rw [IntKind.wrap_i64]; omega, by unfold wrap64; omega, by rw [IntKind.wrap_i64]; omega, by unfold wrap64; omega, by rw [IntKind.wrap_i64]; omega, by unfold wrap64; omega⟩
section
variable {E : Env} {w0 w w' : World} {x : Nat} {fl fs : Nat → ByteArray} {k k' : Kp}
theorem is_v (h : Hid (ShS E w0 w x fl fs k)) {cl : ByteArray} {c : Nat} (hc : Hid (cellN cl.data.toList = some c)) (n : Int) (hv : (k.last c).v = vI n) :
    Calls Tryz.prog 27 #[.pointer (some ⟨x, 0, none⟩), .string cl, .int .i64 n] w fun e w' => e = .returned (.bool true) ∧ Hid (ShS E w0 w' x fl fs k) := by
  refine (is_s h hc n).mono ?_
  rintro e w' ⟨rfl, h1⟩
  rw [hv, eqB_self]
  exact ⟨rfl, h1.out.1⟩
theorem fails_v (h : Hid (ShS E w0 w x fl fs k)) {cl : ByteArray} {c : Nat} (hc : Hid (cellN cl.data.toList = some c)) (n : Int) (hv : (k.last c).v = vE n) :
    Calls Tryz.prog 28 #[.pointer (some ⟨x, 0, none⟩), .string cl, .int .i64 n] w fun e w' => e = .returned (.bool true) ∧ Hid (ShS E w0 w' x fl fs k) := by
  refine (fails_s h hc n).mono ?_
  rintro e w' ⟨rfl, h1⟩
  rw [hv, eqB_self]
  exact ⟨rfl, h1.out.1⟩
theorem fails_b (h : Hid (ShS E w0 w x fl fs k)) {cl : ByteArray} {c : Nat} (hc : Hid (cellN cl.data.toList = some c)) (n m : Int) (hv : (k.last c).v = vI m) :
    Calls Tryz.prog 28 #[.pointer (some ⟨x, 0, none⟩), .string cl, .int .i64 n] w fun e w' => e = .returned (.bool false) ∧ Hid (ShS E w0 w' x fl fs k) := by
  refine (fails_s h hc n).mono ?_
  rintro e w' ⟨rfl, h1⟩
  rw [hv, eqB_ne (by unfold vI vE; simp)]
  exact ⟨rfl, h1.out.1⟩
theorem val_v (h : Hid (ShS E w0 w x fl fs k)) {cl : ByteArray} {c : Nat} (hc : Hid (cellN cl.data.toList = some c)) (a b : Int) (hv : (k.last c).v = ⟨a, b, eB⟩) :
    Calls Tryz.prog 29 #[.pointer (some ⟨x, 0, none⟩), .string cl] w fun e w' => e = .returned (.tuple #[.agg #[.int .i64 a, .int .i64 b, .string ⟨#[]⟩], .int .i64 0]) ∧ Hid (ShS E w0 w' x fl fs k ∧ Below w.heap.size w w') := by
  refine (value_some w x h.out.sr cl c hc).mono ?_
  rintro e w' ⟨rfl, hb⟩
  rw [hv]
  exact ⟨rfl, h.out.below hb, hb⟩
theorem bel_alloc (w : World) (o : Obj) : Below w.heap.size w (w.alloc o) := (Below.refl _ _).alloc (Nat.le_refl _) _
theorem old_cell {w w' : World} {o : Obj} {j : Nat} {v : Value} (hb : Below (w.alloc o).heap.size (w.alloc o) w') (hv : (w.alloc o).cell? ⟨w.heap.size, j, none⟩ = some v) (o' : Obj) : (w'.alloc o').cell? ⟨w.heap.size, j, none⟩ = some v := by
  have h1 : w.heap.size < (w.alloc o).heap.size := by simp
  have h2 : w.heap.size < w'.heap.size := Nat.lt_of_lt_of_le h1 hb.size
  rw [(bel_alloc w' o').cell (p := ⟨w.heap.size, j, none⟩) h2, hb.cell (p := ⟨w.heap.size, j, none⟩) h1]
  exact hv
end
end Go.Proofs.YtiocnfambeochaaGreatDoor

/- Work over a sheet's state; small numbers. -/
set_option linter.unusedVariables false
set_option linter.unusedSimpArgs false
namespace Go.Proofs.YtiocnfambeochaaGreatDoor
open Go.RowKit

theorem k0_places (n : Nat) : (k0 n).store.places = n := rfl
section
variable {E : Env} {w0 w w' : World} {x : Nat} {fl fs : Nat → ByteArray} {k k' : Kp}
theorem work_s (hE : Hid (EnvOK E)) (hA : Hid (Amb w0)) (h : Hid (ShS E w0 w x fl fs k)) (order way : Nat) (ho : Hid (order < 3)) (hw : Hid (way < 3)) :
    Calls Tryz.prog 37 #[.pointer (some ⟨x, 0, none⟩), .int .i64 order, .int .i64 way] w fun e w' => ∃ ao cp k' bg, e = .returned (.tuple #[.agg #[.slice ao (List.length bg) cp], .int .i64 0]) ∧ Hid (ShS E w0 w' x fs fs k' ∧ WorkP E k fs order way k' bg ∧ Slc w' 9 1 (.slice ao bg.length cp) bg.length (bg.map nmV)) := by
  refine (work37 hE.out w x order way fl fs bd0 k h.out.sr (EVc.ofVar (hA.out.below h.out.bel).1) h.out.kinv (h.out.ft.ok hE.out).1 (h.out.ft.ok hE.out).2 ho.out hw.out).mono ?_
  rintro e w' ⟨v, k', bg, rfl, h1⟩
  obtain ⟨g1, g2, g3, g4, g5⟩ := h1.out
  obtain ⟨ao, cp, rfl⟩ := g4.len
  exact ⟨ao, cp, k', bg, rfl, ⟨h.out.bel' g3, h.out.xB, g2, g1.inv hE.out h.out.kinv h.out.ft ho.out, h.out.ft⟩, g1, g4⟩
/-- A slice of a world stays what it is while blocks are made behind it. -/
theorem Slc.bel {v : Value} {e s n : Nat} {l : List Value} (h : Slc w e s v n l) (hb : Below w.heap.size w w') : Slc w' e s v n l := h.kept fun g hg => hb.block g (h.lt g hg)
end
theorem ctPrev {i j : Nat} (h : i = j + 1) (hn : i < 8) : IntKind.i64.wrap ((i : Int) - 1) = (j : Int) ∧ wrap64 ((i : Int) - 1) = (j : Int) := ⟨by rw [IntKind.wrap_i64]; omega, by unfold wrap64; omega⟩
theorem lt_c {i n : Nat} (h : i < n) : (i : Int) < (n : Int) := by omega
theorem ge_c {i n : Nat} (h : ¬ i < n) : ¬ (i : Int) < (n : Int) := by omega
theorem eq_c {i n : Nat} (h : ¬ i = n) : ¬ (i : Int) = (n : Int) ∧ ((i : Int) == (n : Int)) = false := by
  have h1 : ¬ (i : Int) = (n : Int) := by omega
  exact ⟨h1, by simpa using h1⟩
theorem le_c {i n : Nat} (h : i ≤ n) : (i : Int) ≤ (n : Int) := by omega
theorem gt_c {i n : Nat} (h : ¬ i ≤ n) : ¬ (i : Int) ≤ (n : Int) := by omega
theorem nz_c {y : Nat} (h : y ≠ 0) : ¬ (y : Int) = 0 ∧ ((y : Int) == 0) = false := by
  have h1 : ¬ (y : Int) = 0 := by omega
  exact ⟨h1, by simpa using h1⟩
theorem num65 {i : Nat} (h : i < 8) : IntKind.i64.wrap (6 * (i : Int) + 5) = 6 * (i : Int) + 5 ∧ wrap64 (6 * (i : Int) + 5) = 6 * (i : Int) + 5 := ⟨by rw [IntKind.wrap_i64]; omega, by unfold wrap64; omega⟩
theorem rcEnd {i n : Nat} (h1 : i ≤ n + 1) (h2 : ¬ i ≤ n) : i - 1 = n := by omega
theorem rcEnd8 {i : Nat} (h1 : i ≤ 8) (h2 : ¬ i < 8) : i = 8 := by omega
theorem rcPrev {i j : Nat} (h : i = j + 1) (h8 : i < 8) : j < 7 := by omega
end Go.Proofs.YtiocnfambeochaaGreatDoor
