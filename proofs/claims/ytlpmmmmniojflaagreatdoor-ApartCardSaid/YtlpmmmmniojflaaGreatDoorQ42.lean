/- Texts put together. -/
import Derived.Test.YtlpmmmmniojflaaGreatDoorQ08
import Derived.Test.YtlpmmmmniojflaaGreatDoorQ13
import Derived.Test.YtlpmmmmniojflaaGreatDoorQ30
import Derived.Test.YtlpmmmmniojflaaGreatDoorQ31
/- Plain mathematics: of which tokens instructions come, whatever stands behind them; what those do. -/
set_option linter.unusedVariables false
set_option linter.unusedSimpArgs false
namespace Go.Proofs.YtlpmmmmniojflaaGreatDoor
theorem bind_mono {α β : Type} {x x' : Option α} {g g' : α → Option β} {b : β} (hx : ∀ a, x = some a → x' = some a) (hg : ∀ a b, g a = some b → g' a = some b) (h : x.bind g = some b) : x'.bind g' = some b := by
  obtain ⟨a, h1, h2⟩ := bind_some h
  rw [hx a h1]
  exact hg a b h2
theorem ite_mono {α : Type} {c : Prop} [Decidable c] {x x' y y' : Option α} {b : α} (hx : x = some b → x' = some b) (hy : y = some b → y' = some b) (h : (if c then x else y) = some b) : (if c then x' else y') = some b := by
  by_cases hc : c
  · rw [if_pos hc] at h ⊢; exact hx h
  · rw [if_neg hc] at h ⊢; exact hy h
theorem cmp_succ : ∀ (f tag off : Nat) (s : List Ins) (d : Beh) (ts : List Tk) (r : List Ins × Beh × List Tk), cmp f tag off s d ts = some r → cmp (f + 1) tag off s d ts = some r
  | 0, _, _, _, _, _, _, h => by simp [cmp] at h
  | f + 1, tag, off, s, d, ts, r, h => by
    have ih := cmp_succ f
    rw [cmp] at h ⊢
    refine ite_mono (fun h => bind_mono (fun a => ih _ _ _ _ _ a) (fun a b => ih _ _ _ _ _ b) h) (fun h => ?_) h
    refine ite_mono (fun h => ?_) (fun h => ?_) h
    · refine ite_mono (fun h => bind_mono (fun a => ih _ _ _ _ _ a) (fun a b h => h) h) (fun h => ?_) h
      refine ite_mono (fun h => h) (fun h => ?_) h
      refine ite_mono (fun h => h) (fun h => ?_) h
      refine ite_mono (fun h => h) (fun h => ?_) h
      refine ite_mono (fun h => h) (fun h => ?_) h
      refine ite_mono (fun h => bind_mono (fun a => ih _ _ _ _ _ a) (fun a b h => h) h) (fun h => ?_) h
      refine ite_mono (fun h => bind_mono (fun a => ih _ _ _ _ _ a) (fun a b h => bind_mono (fun a => ih _ _ _ _ _ a) (fun a b h => bind_mono (fun a => ih _ _ _ _ _ a) (fun a b h => h) h) h) h) (fun h => ?_) h
      refine ite_mono (fun h => bind_mono (fun a => ih _ _ _ _ _ a) (fun a b h => h) h) (fun h => ?_) h
      exact ite_mono (fun h => bind_mono (fun a => ih _ _ _ _ _ a) (fun a b h => h) h) (fun h => h) h
    · exact ite_mono (fun h => bind_mono (fun a => ih _ _ _ _ _ a) (fun a b => ih _ _ _ _ _ b) h) (fun h => h) h
theorem cmp_le {f g tag off : Nat} {s : List Ins} {d : Beh} {ts : List Tk} {r : List Ins × Beh × List Tk} (hfg : f ≤ g) (h : cmp f tag off s d ts = some r) : cmp g tag off s d ts = some r := by
  induction hfg with
  | refl => exact h
  | step _ ih => exact cmp_succ _ _ _ _ _ _ _ ih
theorem cmp_det {f g tag off : Nat} {s : List Ins} {d : Beh} {ts : List Tk} {r r' : List Ins × Beh × List Tk} (h : cmp f tag off s d ts = some r) (h' : cmp g tag off s d ts = some r') : r = r' := by
  have a := cmp_le (Nat.le_max_left f g) h
  have b := cmp_le (Nat.le_max_right f g) h'
  rw [a] at b
  exact Option.some.inj b
def CG (lv : Nat) (g : List Tk) (d : Beh) : Prop := ∀ (off : Nat) (post : List Tk), ¬ hk post ∈ goesOn lv → ∃ f code, cmp f lv off [] (retA vN) (g ++ post) = some (code, d, post)
def CR (lv : Nat) (g : List Tk) (d0 d : Beh) : Prop := ∀ (off : Nat) (s : List Ins) (post : List Tk), ¬ hk post ∈ goesOn lv → ∃ f code, cmp f (lv + 4) off s d0 (g ++ post) = some (code, d, post)
theorem cr_nil {lv : Nat} (h : lv < 3) (d : Beh) : CR lv [] d d := by
  intro off s post hp
  refine ⟨1, s, ?_⟩
  rw [cmp, if_neg (by omega), if_neg (by omega), if_neg]
  · rfl
  · intro hm
    apply hp
    have e : lv + 4 - 4 = lv := by omega
    rw [e] at hm
    have : lv = 0 ∨ lv = 1 ∨ lv = 2 := by omega
    rcases this with rfl | rfl | rfl
    · simp [signs] at hm; simp [goesOn]; omega
    · simp [signs] at hm; simp [goesOn]; omega
    · simp [signs] at hm; simp [goesOn]; omega
theorem cr_cons {lv : Nat} {o : Tk} {a g : List Tk} {d0 da d : Beh} (hl : lv < 3) (ho : o.k ∈ signs lv) (ha : CG (lv + 1) a da) (hn : ∀ post, ¬ hk post ∈ goesOn lv → ¬ hk (g ++ post) ∈ goesOn (lv + 1)) (hg : CR lv g (binA (signOp o.k) d0 da) d) : CR lv (o :: (a ++ g)) d0 d := by
  intro off s post hp
  obtain ⟨f1, c1, h1⟩ := ha (off + s.length) (g ++ post) (hn post hp)
  obtain ⟨f2, c2, h2⟩ := hg off (s ++ (c1 ++ [iOp (signOp o.k)])) post hp
  refine ⟨max f1 f2 + 1, c2, ?_⟩
  rw [cmp, if_neg (by omega), if_neg (by omega)]
  have e : lv + 4 - 4 = lv := by omega
  have e3 : lv + 4 - 3 = lv + 1 := by omega
  rw [if_pos (by rw [e]; exact ho), e3]
  have e4 : (o :: (a ++ g) ++ post).tail = a ++ (g ++ post) := by simp
  rw [e4, cmp_le (Nat.le_max_left f1 f2) h1]
  exact cmp_le (Nat.le_max_right f1 f2) h2
theorem cg_row {lv : Nat} {a g : List Tk} {da d : Beh} (hl : lv < 3) (ha : CG (lv + 1) a da) (hn : ∀ post, ¬ hk post ∈ goesOn lv → ¬ hk (g ++ post) ∈ goesOn (lv + 1)) (hg : CR lv g da d) : CG lv (a ++ g) d := by
  intro off post hp
  obtain ⟨f1, c1, h1⟩ := ha off (g ++ post) (hn post hp)
  obtain ⟨f2, c2, h2⟩ := hg off c1 post hp
  refine ⟨max f1 f2 + 1, c2, ?_⟩
  rw [cmp, if_pos hl, List.append_assoc, cmp_le (Nat.le_max_left f1 f2) h1]
  exact cmp_le (Nat.le_max_right f1 f2) h2
theorem goes_up {lv : Nat} (hl : lv < 3) {q : Int} (h : ¬ q ∈ goesOn lv) : ¬ q ∈ goesOn (lv + 1) := by
  have : lv = 0 ∨ lv = 1 ∨ lv = 2 := by omega
  rcases this with rfl | rfl | rfl <;> (simp [goesOn] at h ⊢ <;> omega)
theorem sign_up {lv : Nat} (hl : lv < 3) {q : Int} (h : q ∈ signs lv) : ¬ q ∈ goesOn (lv + 1) := by
  have : lv = 0 ∨ lv = 1 ∨ lv = 2 := by omega
  rcases this with rfl | rfl | rfl <;> (simp [goesOn, signs] at h ⊢ <;> omega)
theorem cg_lift {lv : Nat} {a : List Tk} {d : Beh} (hl : lv < 3) (ha : CG (lv + 1) a d) : CG lv a d := by
  have := cg_row (g := []) hl ha (fun post hp => goes_up hl hp) (cr_nil hl d)
  rw [List.append_nil] at this; exact this
theorem cg_two {lv : Nat} {a b : List Tk} {o : Tk} {da db : Beh} (hl : lv < 3) (ho : o.k ∈ signs lv) (ha : CG (lv + 1) a da) (hb : CG (lv + 1) b db) : CG lv (a ++ o :: b) (binA (signOp o.k) da db) := by
  have hr := cr_cons (g := []) hl ho hb (fun post hp => goes_up hl hp) (cr_nil hl (binA (signOp o.k) da db))
  rw [List.append_nil] at hr
  exact cg_row hl ha (fun post _ => sign_up hl ho) hr
theorem cg_form {a : List Tk} {d : Beh} (h : CG 3 a d) : CG 0 a d := cg_lift (by omega) (cg_lift (by omega) (cg_lift (by omega) h))
theorem cg_sum {a : List Tk} {d : Beh} (h : CG 3 a d) : CG 1 a d := cg_lift (by omega) (cg_lift (by omega) h)
theorem cg_num {t : Tk} (h : t.k = 1) (hv : valN t.x ≤ 9223372036854775807) : CG 3 [t] (retA (vI (valN t.x))) := by
  intro off post _
  refine ⟨1, [iPut (vI (valN t.x))], ?_⟩
  rw [cmp, if_neg (by omega), if_pos rfl]
  have e1 : hk ([t] ++ post) = 1 := h
  have e2 : hx ([t] ++ post) = t.x := rfl
  have e3 : ([t] ++ post).tail = post := rfl
  rw [e1, e2, e3]
  rw [if_neg (by decide), if_pos rfl, if_pos hv]
theorem cg_text (r : List UInt8) (hr : r.length ≤ 20) : CG 3 [tText r] (retA (vT ⟨r.toArray⟩)) := by
  intro off post _
  have e : ((34 :: (r ++ [34])).drop 1).dropLast = r := by simp
  refine ⟨1, [iPut (vT ⟨r.toArray⟩)], ?_⟩
  rw [cmp, if_neg (by omega), if_pos rfl]
  have e1 : hk ([tText r] ++ post) = 2 := rfl
  have e2 : hx ([tText r] ++ post) = 34 :: (r ++ [34]) := rfl
  have e3 : ([tText r] ++ post).tail = post := rfl
  rw [e1, e2, e3]
  rw [if_neg (by decide), if_neg (by decide), if_pos rfl, if_pos (by simp; omega), e]
theorem cg_true : CG 3 [tTrue] (retA (vB true)) := fun off post _ => ⟨1, _, rfl⟩
theorem cg_false : CG 3 [tFalse] (retA (vB false)) := fun off post _ => ⟨1, _, rfl⟩
theorem cg_cellT {t : Tk} {c : Nat} (h : t.k = 5) (hc : cellN t.x = some c) : CG 3 [t] (readA ⟨c, false⟩) := by
  intro off post _
  refine ⟨1, [iRead 1 c], ?_⟩
  rw [cmp, if_neg (by omega), if_pos rfl]
  have e1 : hk ([t] ++ post) = 5 := h
  have e2 : hx ([t] ++ post) = t.x := rfl
  have e3 : ([t] ++ post).tail = post := rfl
  rw [e1, e2, e3]
  rw [if_neg (by decide), if_neg (by decide), if_neg (by decide), if_neg (by decide), if_pos rfl, hc]
  rfl
theorem cellN_name {n : Nat} (h : n < 48) : cellN (tCell n).x = some n := by
  have h1 : (UInt8.ofNat (65 + n % 6)).toNat = 65 + n % 6 := by rw [UInt8.toNat_ofNat']; omega
  have h2 : (UInt8.ofNat (49 + n / 6)).toNat = 49 + n / 6 := by rw [UInt8.toNat_ofNat']; omega
  unfold tCell tk cellN
  simp only [h1, h2]
  rw [if_pos (by omega)]
  congr 1
  omega
theorem cg_cell {n : Nat} (h : n < 48) : CG 3 [tCell n] (readA ⟨n, false⟩) := cg_cellT rfl (cellN_name h)
theorem cg_neg {a : List Tk} {d : Beh} (ha : CG 3 a d) : CG 3 (tNeg :: a) (negA d) := by
  intro off post hp
  obtain ⟨f, c, h⟩ := ha off post hp
  refine ⟨f + 1, c ++ [iOp 4], ?_⟩
  rw [cmp, if_neg (by omega), if_pos rfl]
  have e : (tNeg :: a ++ post).tail = a ++ post := rfl
  rw [e]
  show (if (23 : Int) = 23 then _ else _) = _
  rw [if_pos rfl, h]
  rfl
theorem not_close (lv : Nat) (r : List Tk) : ¬ hk (tClose :: r) ∈ goesOn lv := by
  show ¬ (13 : Int) ∈ goesOn lv
  unfold goesOn
  repeat' split
  all_goals decide
theorem not_comma (lv : Nat) (r : List Tk) : ¬ hk (tComma :: r) ∈ goesOn lv := by
  show ¬ (14 : Int) ∈ goesOn lv
  unfold goesOn
  repeat' split
  all_goals decide
theorem cg_br {a : List Tk} {d : Beh} (ha : CG 0 a d) : CG 3 (tOpen :: (a ++ [tClose])) d := by
  intro off post hp
  obtain ⟨f, c, h⟩ := ha off (tClose :: post) (not_close _ _)
  refine ⟨f + 1, c, ?_⟩
  rw [cmp, if_neg (by omega), if_pos rfl]
  have e : (tOpen :: (a ++ [tClose]) ++ post).tail = a ++ (tClose :: post) := by simp
  rw [e]
  show (if (12 : Int) = 23 then _ else if (12 : Int) = 1 then _ else if (12 : Int) = 2 then _ else if (12 : Int) = 3 ∨ (12 : Int) = 4 then _ else if (12 : Int) = 5 then _ else if (12 : Int) = 12 then _ else _) = _
  rw [if_neg (by decide), if_neg (by decide), if_neg (by decide), if_neg (by decide), if_neg (by decide), if_pos rfl, h]
  rfl
theorem cg_at {a : List Tk} {d : Beh} (ha : CG 0 a d) : CG 3 (tAt :: tOpen :: (a ++ [tClose])) (atA d) := by
  intro off post hp
  obtain ⟨f, c, h⟩ := ha off (tClose :: post) (not_close _ _)
  refine ⟨f + 1, c ++ [iOp 3], ?_⟩
  rw [cmp, if_neg (by omega), if_pos rfl]
  have e : (tAt :: tOpen :: (a ++ [tClose]) ++ post).tail.tail = a ++ (tClose :: post) := by simp
  rw [e]
  show (if (7 : Int) = 23 then _ else if (7 : Int) = 1 then _ else if (7 : Int) = 2 then _ else if (7 : Int) = 3 ∨ (7 : Int) = 4 then _ else if (7 : Int) = 5 then _ else if (7 : Int) = 12 then _ else if (7 : Int) = 6 then _ else if (7 : Int) = 7 then _ else _) = _
  rw [if_neg (by decide), if_neg (by decide), if_neg (by decide), if_neg (by decide), if_neg (by decide), if_neg (by decide), if_neg (by decide), if_pos rfl, h]
  rfl
theorem cg_bad {a : List Tk} {d : Beh} (ha : CG 0 a d) : CG 3 (tBad :: tOpen :: (a ++ [tClose])) (badA' d) := by
  intro off post hp
  obtain ⟨f, c, h⟩ := ha (off + 1) (tClose :: post) (not_close _ _)
  refine ⟨f + 1, iTo 15 (off + 1 + c.length + 1) :: (c ++ [iOp 16]), ?_⟩
  rw [cmp, if_neg (by omega), if_pos rfl]
  have e : (tBad :: tOpen :: (a ++ [tClose]) ++ post).tail.tail = a ++ (tClose :: post) := by simp
  rw [e]
  show (if (8 : Int) = 23 then _ else if (8 : Int) = 1 then _ else if (8 : Int) = 2 then _ else if (8 : Int) = 3 ∨ (8 : Int) = 4 then _ else if (8 : Int) = 5 then _ else if (8 : Int) = 12 then _ else if (8 : Int) = 6 then _ else if (8 : Int) = 7 then _ else if (8 : Int) = 8 then _ else _) = _
  rw [if_neg (by decide), if_neg (by decide), if_neg (by decide), if_neg (by decide), if_neg (by decide), if_neg (by decide), if_neg (by decide), if_neg (by decide), if_pos rfl, h]
  rfl
theorem cg_if {a b c : List Tk} {da db dc : Beh} (ha : CG 0 a da) (hb : CG 0 b db) (hc : CG 0 c dc) : CG 3 (tIf :: tOpen :: ((a ++ tComma :: (b ++ tComma :: c)) ++ [tClose])) (ifA da db dc) := by
  intro off post hp
  obtain ⟨f1, c1, h1⟩ := ha off (tComma :: (b ++ tComma :: (c ++ (tClose :: post)))) (not_comma _ _)
  obtain ⟨f2, c2, h2⟩ := hb (off + c1.length + 1) (tComma :: (c ++ (tClose :: post))) (not_comma _ _)
  obtain ⟨f3, c3, h3⟩ := hc (off + c1.length + 1 + c2.length + 1) (tClose :: post) (not_close _ _)
  refine ⟨max f1 (max f2 f3) + 1, c1 ++ (iTo 13 (off + c1.length + 1 + c2.length + 1) :: (c2 ++ (iTo 14 (off + c1.length + 1 + c2.length + 1 + c3.length) :: c3))), ?_⟩
  rw [cmp, if_neg (by omega), if_pos rfl]
  have e : (tIf :: tOpen :: ((a ++ tComma :: (b ++ tComma :: c)) ++ [tClose]) ++ post).tail.tail = a ++ (tComma :: (b ++ tComma :: (c ++ (tClose :: post)))) := by simp
  rw [e]
  show (if (6 : Int) = 23 then _ else if (6 : Int) = 1 then _ else if (6 : Int) = 2 then _ else if (6 : Int) = 3 ∨ (6 : Int) = 4 then _ else if (6 : Int) = 5 then _ else if (6 : Int) = 12 then _ else if (6 : Int) = 6 then _ else _) = _
  rw [if_neg (by decide), if_neg (by decide), if_neg (by decide), if_neg (by decide), if_neg (by decide), if_neg (by decide), if_pos rfl]
  rw [cmp_le (Nat.le_max_left _ _) h1]
  simp only [Option.bind_some, List.tail_cons]
  rw [cmp_le (Nat.le_trans (Nat.le_max_left f2 f3) (Nat.le_max_right f1 _)) h2]
  simp only [Option.bind_some, List.tail_cons]
  rw [cmp_le (Nat.le_trans (Nat.le_max_right f2 f3) (Nat.le_max_right f1 _)) h3]
  simp only [Option.bind_some, List.tail_cons]
theorem cg_rsum {n m : Nat} (hn : n < 48) (hm : m < 48) : CG 3 [tSum, tOpen, tCell n, tColon, tCell m, tClose] (sumA (rangeL n m) (vI 0)) := by
  intro off post _
  refine ⟨1, iPut (vI 0) :: eachI 1 5 (rangeL n m), ?_⟩
  rw [cmp, if_neg (by omega), if_pos rfl]
  show (if (9 : Int) = 23 then _ else if (9 : Int) = 1 then _ else if (9 : Int) = 2 then _ else if (9 : Int) = 3 ∨ (9 : Int) = 4 then _ else if (9 : Int) = 5 then _ else if (9 : Int) = 12 then _ else if (9 : Int) = 6 then _ else if (9 : Int) = 7 then _ else if (9 : Int) = 8 then _ else if (9 : Int) = 9 ∨ (9 : Int) = 10 then _ else _) = _
  rw [if_neg (by decide), if_neg (by decide), if_neg (by decide), if_neg (by decide), if_neg (by decide), if_neg (by decide), if_neg (by decide), if_neg (by decide), if_neg (by decide), if_pos (by decide)]
  show Option.bind (cellN (tCell n).x) (fun a => Option.bind (cellN (tCell m).x) fun b => _) = _
  rw [cellN_name hn, cellN_name hm]
  rfl
theorem cg_rcnt {n m : Nat} (hn : n < 48) (hm : m < 48) : CG 3 [tCount, tOpen, tCell n, tColon, tCell m, tClose] (cntA (rangeL n m) (vI 0)) := by
  intro off post _
  refine ⟨1, iPut (vI 0) :: eachI 2 12 (rangeL n m), ?_⟩
  rw [cmp, if_neg (by omega), if_pos rfl]
  show (if (10 : Int) = 23 then _ else if (10 : Int) = 1 then _ else if (10 : Int) = 2 then _ else if (10 : Int) = 3 ∨ (10 : Int) = 4 then _ else if (10 : Int) = 5 then _ else if (10 : Int) = 12 then _ else if (10 : Int) = 6 then _ else if (10 : Int) = 7 then _ else if (10 : Int) = 8 then _ else if (10 : Int) = 9 ∨ (10 : Int) = 10 then _ else _) = _
  rw [if_neg (by decide), if_neg (by decide), if_neg (by decide), if_neg (by decide), if_neg (by decide), if_neg (by decide), if_neg (by decide), if_neg (by decide), if_neg (by decide), if_pos (by decide)]
  show Option.bind (cellN (tCell n).x) (fun a => Option.bind (cellN (tCell m).x) fun b => _) = _
  rw [cellN_name hn, cellN_name hm]
  rfl
theorem valN_app (l : List UInt8) (c : UInt8) : valN (l ++ [c]) = 10 * valN l + (c.toNat - 48) := by unfold valN; rw [List.foldl_append]; rfl
theorem valN_decU (u : Nat) : valN (Lib.decDigits u) = u := by
  induction u using Nat.strongRecOn with
  | _ u ih =>
    rw [Lib.decDigits]
    by_cases h : u < 10
    · rw [dif_pos h]
      show 10 * 0 + ((UInt8.ofNat (48 + u)).toNat - 48) = u
      rw [ofNat_digit u h]; omega
    · rw [dif_neg h, valN_app, ih (u / 10) (by omega), ofNat_digit (u % 10) (by omega)]; omega
theorem valN_dec (u : Nat) (h : u < 200) : valN (Lib.decDigits u) ≤ 9223372036854775807 := by rw [valN_decU]; omega
theorem gen_cg : ∀ (deep : Nat) (fd : List UInt8), ∃ d, CG 1 (gen deep fd).1 d
  | 0, fd => by
    unfold gen
    split
    · have h := dec_ok (nx 200 (nx 6 fd).2).1 (nx_lt 200 (by decide) _)
      exact ⟨_, cg_sum (cg_num rfl (valN_dec _ (nx_lt 200 (by decide) _)))⟩
    · split
      · exact ⟨_, cg_sum (cg_text _ (texts_ok _).2)⟩
      · split
        · dsimp only
          split
          · exact ⟨_, cg_sum cg_true⟩
          · split
            · exact ⟨_, cg_sum cg_false⟩
            · exact ⟨_, cg_sum (cg_num rfl (by decide))⟩
        · exact ⟨_, cg_sum (cg_cell (Nat.lt_of_lt_of_le (nx_lt 12 (by decide) _) (by decide)))⟩
  | deep + 1, fd => by
    have ih := gen_cg deep
    unfold gen
    split
    · obtain ⟨da, ha⟩ := ih (nx 9 fd).2
      obtain ⟨db, hb⟩ := ih (gen deep (nx 9 fd).2).2
      obtain ⟨dc, hc⟩ := ih (gen deep (gen deep (nx 9 fd).2).2).2
      exact ⟨_, cg_sum (cg_if (cg_lift (by omega) ha) (cg_lift (by omega) hb) (cg_lift (by omega) hc))⟩
    split
    · have hq := nx_lt 12 (by decide) (nx 9 fd).2
      refine (?_ : ∃ d, CG 0 (ats _ _) d).elim fun d hd => ⟨_, cg_sum (cg_at hd)⟩
      unfold ats
      split
      · exact ⟨_, cg_lift (by omega) (cg_two (a := [tText [65]]) (b := [tText [49]]) (o := tOp 4) (by omega) (by decide) (cg_lift (by omega) (cg_text _ (by decide))) (cg_lift (by omega) (cg_text _ (by decide))))⟩
      · split
        · exact ⟨_, cg_form (cg_text _ (by decide))⟩
        · exact ⟨_, cg_form (cg_cell (Nat.lt_of_lt_of_le hq (by decide)))⟩
    split
    · obtain ⟨da, ha⟩ := ih (nx 9 fd).2
      exact ⟨_, cg_sum (cg_bad (cg_lift (by omega) ha))⟩
    split
    · unfold ranges
      dsimp only
      split
      · exact ⟨_, cg_sum (cg_rsum (by omega) (by omega))⟩
      split
      · exact ⟨_, cg_sum (cg_rcnt (by omega) (by omega))⟩
      split
      · exact ⟨_, cg_sum (cg_rsum (by omega) (by omega))⟩
      · exact ⟨_, cg_sum (cg_rcnt (by omega) (by omega))⟩
    split
    · obtain ⟨da, ha⟩ := ih (nx 9 fd).2
      obtain ⟨db, hb⟩ := ih (nx 2 (gen deep (nx 9 fd).2).2).2
      exact ⟨_, cg_sum (cg_br (cg_two (by omega) (show _ ∈ signs 0 from (cmp_k _).1) ha hb))⟩
    split
    · exact ⟨_, cg_sum (cg_neg (cg_cell (Nat.lt_of_lt_of_le (nx_lt 12 (by decide) _) (by decide))))⟩
    · obtain ⟨da, ha⟩ := ih (nx 9 fd).2
      obtain ⟨db, hb⟩ := ih (nx 5 (gen deep (nx 9 fd).2).2).2
      have hk := (op_k (nx 5 (gen deep (nx 9 fd).2).2).1).1
      dsimp only
      by_cases h : (tOp (nx 5 (gen deep (nx 9 fd).2).2).1).k ∈ signs 1
      · exact ⟨_, cg_two (by omega) h (cg_lift (by omega) (cg_br (cg_lift (by omega) ha))) (cg_lift (by omega) (cg_br (cg_lift (by omega) hb)))⟩
      · refine ⟨_, cg_lift (by omega) (cg_two (by omega) ?_ (cg_br (cg_lift (by omega) ha)) (cg_br (cg_lift (by omega) hb)))⟩
        simp [signs] at h hk ⊢
        omega
end Go.Proofs.YtlpmmmmniojflaaGreatDoor
/- Plain mathematics: what all formulas come to, in one. -/
set_option linter.unusedVariables false
set_option linter.unusedSimpArgs false
namespace Go.Proofs.YtlpmmmmniojflaaGreatDoor
theorem Cmpd.same {t : ByteArray} {code code' : List Ins} {d d' : Beh} (h : Cmpd t code d) (h' : Cmpd t code' d') : code' = code ∧ d' = d := by
  obtain ⟨f, rest, e⟩ := h.c
  obtain ⟨f', rest', e'⟩ := h'.c
  have := cmp_det e' e
  cases this
  exact ⟨rfl, rfl⟩
theorem Cmpd.small {t : ByteArray} {code : List Ins} {d : Beh} (h : Cmpd t code d) : code.length ≤ 90000 ∧ MI ⟨code, 0, [], []⟩ := by
  obtain ⟨f, rest, e⟩ := h.c
  obtain ⟨a1, a2, a3⟩ := cmp_ok f 0 0 [] (retA vN) _ code d rest (by omega) e (fun e => absurd e (by omega)) (fun _ => rfl)
  have hl : (rdA t.data.toList).ts.length ≤ 900 := rdA_len t.data.toList (by have := h.size; simpa using this)
  simp only [List.length_nil] at a3
  have hs : code.length ≤ 90000 := by omega
  rw [Nat.zero_add] at a1
  exact ⟨hs, { code := a1, small := hs, at' := Nat.zero_le _, len := Nat.zero_le _, vals := (fun v hv => by cases hv), gd := (fun g hg => by cases hg), gl := Nat.zero_le _, gi := (fun j g hg => by simp at hg) }⟩
structure EnvOK (E : Env) : Prop where
  w : RightW E
  c : ∀ t code d, Cmpd t code d → FmlOK E t code ∧ E.D t = bindA d retA ∧ ActN (E.B t) (E.D t) ∧ E.B t ≤ 90000
theorem env_ex : ∃ E : Env, EnvOK E := by
  have hD : ∀ t : ByteArray, ∃ p : Beh × Nat, ∀ code d, Cmpd t code d → p.1 = bindA d retA ∧ p.2 = code.length := by
    intro t
    by_cases h : ∃ code d, Cmpd t code d
    · obtain ⟨code, d, h⟩ := h
      refine ⟨(bindA d retA, code.length), fun code' d' h' => ?_⟩
      obtain ⟨rfl, rfl⟩ := h.same h'
      exact ⟨rfl, rfl⟩
    · exact ⟨(retA vN, 0), fun code d h' => absurd ⟨code, d, h'⟩ h⟩
  have hW : ∀ (wt : Nat → Int) (o c : Nat), ∃ b : Bool, b = true ↔ ∃ m, along wt m o = c := by
    intro wt o c
    by_cases h : ∃ m, along wt m o = c
    · exact ⟨true, by simp [h]⟩
    · exact ⟨false, by simp [h]⟩
  refine ⟨⟨fun t => (Classical.choose (hD t)).1, fun t => (Classical.choose (hD t)).2, fun wt o c => Classical.choose (hW wt o c)⟩, fun wt _ o c => Classical.choose_spec (hW wt o c), fun t code d h => ?_⟩
  obtain ⟨e1, e2⟩ := Classical.choose_spec (hD t) code d h
  obtain ⟨f, rest, e⟩ := h.c
  obtain ⟨q1, q2⟩ := cmp_whole e
  obtain ⟨s1, s2⟩ := h.small
  dsimp only
  refine ⟨⟨⟨d, h⟩, ⟨code.length, ?_⟩, s2⟩, e1, ?_, ?_⟩
  · show Runs _ _ (Classical.choose (hD t)).1
    rw [e1]; exact q2
  · rw [e1, e2]; exact q1
  · rw [e2]; exact s1
end Go.Proofs.YtlpmmmmniojflaaGreatDoor
