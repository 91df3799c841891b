/- Texts put together. -/
import Derived.Test.YtiocnfambeochaaGreatDoorUe
import Derived.Test.YtiocnfambeochaaGreatDoorQ45
import Derived.Test.YtiocnfambeochaaGreatDoorCmp
import Derived.Test.YtiocnfambeochaaGreatDoorQ16
import Derived.Test.YtiocnfambeochaaGreatDoorQ34
import Derived.Test.YtiocnfambeochaaGreatDoorQ35
/- What is kept as a value; what is kept anew. -/
set_option linter.unusedVariables false
set_option linter.unusedSimpArgs false
namespace Go.Proofs.YtiocnfambeochaaGreatDoor
open Go.RowKit

/-- What the sheet keeps of the last Work, as a list of cells. -/
theorem SR.lv {w : World} {x : Nat} {fs : Nat → ByteArray} {bd : Nat → Int × Int} {k : Kp} (h : SR w x fs bd k) : ∃ LL : List Value, LL.length = 240 ∧ w.rangeAt x 144 LL ∧ LV w LL.toArray k.last := by
  obtain ⟨cs, hb, hs⟩ := h.blk
  have hcell : ∀ j, w.cell? ⟨x, j, none⟩ = cs[j]? := fun j => cell_of_row w x j cs 104 (0, 0) hb
  have hg : ∀ i, i < 240 → ((cs.toList.drop 144).take 240)[i]? = cs[144 + i]? := fun i hi => by
    rw [List.getElem?_take_of_lt hi, List.getElem?_drop, Array.getElem?_toList]
  have hl : ((cs.toList.drop 144).take 240).length = 240 := by rw [List.length_take, List.length_drop, Array.length_toList, hs]; omega
  have e : ∀ c t, c < 48 → t < 5 → ((cs.toList.drop 144).take 240).toArray[c * 5 + t]? = w.cell? ⟨x, 144 + c * 5 + t, none⟩ := fun c t hc ht => by
    rw [List.getElem?_toArray, hg _ (by omega), hcell, Nat.add_assoc]
  have hk := h.kp.last
  refine ⟨(cs.toList.drop 144).take 240, hl, fun j v hj => ?_, { size := by simpa using hl, one := ?_, f := fun c hc => ?_, rs := fun c hc => ?_, k := fun c hc => ?_, n := fun c hc => ?_, s := fun c hc => ?_ }⟩
  · have hj' : j < 240 := by have := (List.getElem?_eq_some_iff.1 hj).1; omega
    rw [hcell, ← hg j hj']; exact hj
  · refine Array.all_eq_true_iff_forall_mem.2 fun v hv => ?_
    obtain ⟨i, hi⟩ := Array.getElem?_of_mem hv
    have hl' := (Array.getElem?_eq_some_iff.1 hi).1
    have hi240 : i < 240 := by simp at hl'; omega
    have hc : i / 5 < 48 := by omega
    have ei : i = i / 5 * 5 + i % 5 := by omega
    rw [ei, e _ _ hc (by omega)] at hi
    obtain ⟨rv, r1, r2, r3⟩ := (hk _ hc).rs
    have ht : i % 5 = 0 ∨ i % 5 = 1 ∨ i % 5 = 2 ∨ i % 5 = 3 ∨ i % 5 = 4 := by omega
    rcases ht with t | t | t | t | t <;> rw [t] at hi
    · rw [Nat.add_zero, (hk _ hc).f] at hi; cases hi; rfl
    · rw [r1] at hi; cases hi; exact r2.oneCell
    · rw [(hk _ hc).k] at hi; cases hi; rfl
    · rw [(hk _ hc).n] at hi; cases hi; rfl
    · rw [(hk _ hc).s] at hi; cases hi; rfl
  · rw [show c * 5 = c * 5 + 0 from rfl, e c 0 hc (by omega)]; exact (hk c hc).f
  · obtain ⟨rv, r1, r2, r3⟩ := (hk c hc).rs
    exact ⟨rv, by rw [e c 1 hc (by omega)]; exact r1, r2⟩
  · rw [e c 2 hc (by omega)]; exact (hk c hc).k
  · rw [e c 3 hc (by omega)]; exact (hk c hc).n
  · rw [e c 4 hc (by omega)]; exact (hk c hc).s
/-- The answers of the first cells have been kept. -/
structure LS (x b : Nat) (w1 : World) (j : Nat) (wr : World) : Prop where
  only : Only x w1 wr
  xb : ∃ cs, wr.heap[x]? = some (.cells cs 104 (0, 0)) ∧ cs.size = 755
  off : ∀ i, (i < 144 ∨ 384 ≤ i) → wr.cell? ⟨x, i, none⟩ = w1.cell? ⟨x, i, none⟩
  on : ∀ c t, c < j → t < 5 → wr.cell? ⟨x, 144 + c * 5 + t, none⟩ = w1.cell? ⟨b, T c + 11 + t, none⟩
theorem LS.start {x b : Nat} {w1 : World} (h : ∃ cs, w1.heap[x]? = some (.cells cs 104 (0, 0)) ∧ cs.size = 755) : LS x b w1 0 w1 := ⟨Only.refl _ _, h, fun _ _ => rfl, fun c t hc => absurd hc (by omega)⟩
theorem LS.below {x b j : Nat} {w1 wr w' : World} (h : LS x b w1 j wr) (hb : Below wr.heap.size wr w') : LS x b w1 j w' := by
  obtain ⟨cs, h1, h2⟩ := h.xb
  have hx := (Array.getElem?_eq_some_iff.1 h1).1
  have hc : ∀ i, w'.cell? ⟨x, i, none⟩ = wr.cell? ⟨x, i, none⟩ := fun i => hb.cell (p := ⟨x, i, none⟩) hx
  exact ⟨h.only.trans (Go.Proofs.YtiocnfambeochaaGreatDoor.Below.only hb x), ⟨cs, by rw [hb.block x hx]; exact h1, h2⟩, fun i hi => by rw [hc]; exact h.off i hi, fun c t hc' ht => by rw [hc]; exact h.on c t hc' ht⟩
theorem LS.set {x b j : Nat} {w1 wr : World} (h : LS x b w1 j wr) (hj : j < 48) {vs : List Value} (hl : vs.length = 5) (hv : ∀ t, t < 5 → vs[t]? = w1.cell? ⟨b, T j + 11 + t, none⟩) : LS x b w1 (j + 1) (wr.setCells x (144 + j * 5) vs) := by
  obtain ⟨cs, h1, h2⟩ := h.xb
  obtain ⟨cs', e1, e2, e3, e4⟩ := setCells_row vs (144 + j * 5) wr cs h1
  have hc : ∀ i, (wr.setCells x (144 + j * 5) vs).cell? ⟨x, i, none⟩ = cs'[i]? := fun i => cell_of_row _ x i cs' 104 (0, 0) e1
  have hc0 : ∀ i, wr.cell? ⟨x, i, none⟩ = cs[i]? := fun i => cell_of_row _ x i cs 104 (0, 0) h1
  refine ⟨h.only.trans e4, ⟨cs', e1, by rw [e2, h2]⟩, fun i hi => ?_, fun c t hc' ht => ?_⟩
  · rw [hc, e3, if_neg (by omega), ← hc0]; exact h.off i hi
  · rw [hc, e3]
    by_cases e : c = j
    · subst e
      rw [if_pos ⟨by omega, by omega, by omega⟩, ← hv t ht]
      congr 1; omega
    · rw [if_neg (by omega), ← hc0]; exact h.on c t (by omega) ht
/-- A sheet behind a Work. -/
theorem sheet_done {W w1 wr : World} {own1 : Nat → Nat} {x b : Nat} {fs : Nat → ByteArray} {bd : Nat → Int × Int} {k : Kp} {r : Rn} {ch : List Nat} (h : SR W x fs bd k) (hb : W.heap.size ≤ b) (hR : RR w1 own1 b x r) (hS : RSC W own0 w1 own1 b x) (hC : ChA w1 x ch) (h3 : ∀ c, c < 48 → (r.tk c).st = 3) (hL : LS x b w1 48 wr) :
    SR wr x fs bd ⟨fun c => (r.tk c).an, ch, r.store⟩ ∧ Only x W wr := by
  have hO : Only x W w1 := ⟨hS.os, hS.tape, hS.output, hS.size, fun g hg hne => hS.blk g hg rfl (by omega) hne⟩
  have ho : ∀ i, i < 144 → wr.cell? ⟨x, i, none⟩ = W.cell? ⟨x, i, none⟩ := fun i hi => by rw [hL.off i (.inl hi), hS.xs i (by omega)]
  have hrow : ∀ (g : Nat) (cur : Array Value), w1.heap[g]? = some (Obj.cells cur 274 (0, 0)) → wr.heap[g]? = w1.heap[g]? := fun g cur hg => hL.only.block g (Array.getElem?_eq_some_iff.1 hg).1 (fun e => by
    obtain ⟨cs, q1, _⟩ := hR.xblk
    have e : g = x := e
    rw [e, q1] at hg; cases hg)
  refine ⟨{ blk := hL.xb, fs := fun c hc => by rw [ho c (by omega)]; exact h.fs c hc, bdr := h.bdr, bnd := fun c hc => ⟨by rw [ho _ (by omega)]; exact (h.bnd c hc).1, by rw [ho _ (by omega)]; exact (h.bnd c hc).2⟩, kp := ?_ }, hO.trans hL.only⟩
  refine { last := fun c hc => ?_, chl := hC.1, ch := fun j c hj => ?_, places := ?_, size := ?_, next := ?_, stl := hR.sto.len, kept := fun j a hj => ?_ }
  · exact ((hR.tk c hc).ans (h3 c hc)).kept (b' := x) (o' := 144 + c * 5) (fun t ht => hL.on c t hc ht) fun g cur hg _ => ⟨hrow g cur hg, trivial⟩
  · have := (List.getElem?_eq_some_iff.1 hj).1
    rw [hL.off _ (.inr (by omega))]; exact hC.2 j c hj
  · rw [hL.off _ (.inr (by omega))]; exact hR.sto.places
  · rw [hL.off _ (.inr (by omega))]; exact hR.sto.size
  · rw [hL.off _ (.inr (by omega))]; exact hR.sto.next
  · exact (hR.sto.kept j a hj).kept (b' := x) (o' := 435 + j * 5) (fun t ht => hL.off _ (.inr (by omega))) fun g cur hg _ => ⟨hrow g cur hg, trivial⟩
end Go.Proofs.YtiocnfambeochaaGreatDoor

/- Plain mathematics: of which tokens instructions come, whatever stands behind them; what those do. -/
set_option linter.unusedVariables false
set_option linter.unusedSimpArgs false
namespace Go.Proofs.YtiocnfambeochaaGreatDoor

theorem bind_mono {α β : Type} {x x' : Option α} {g g' : α → Option β} {b : β} (hx : ∀ a, x = some a → x' = some a) (hg : ∀ a b, g a = some b → g' a = some b) (h : x.bind g = some b) : x'.bind g' = some b := by
  obtain ⟨a, h1, h2⟩ := bind_some h
  rw [hx a h1]
  exact hg a b h2
theorem ite_mono {α : Type} {c : Prop} [Decidable c] {x x' y y' : Option α} {b : α} (hx : x = some b → x' = some b) (hy : y = some b → y' = some b) (h : (if c then x else y) = some b) : (if c then x' else y') = some b := by
  by_cases hc : c
  · rw [if_pos hc] at h ⊢; exact hx h
  · rw [if_neg hc] at h ⊢; exact hy h
theorem cmp_succ : ∀ (f tag off : Nat) (s : List Ins) (d : Beh) (ts : List Tk) (r : List Ins × Beh × List Tk), cmp f tag off s d ts = some r → cmp (f + 1) tag off s d ts = some r
  | 0, _, _, _, _, _, _, h => by simp [cmp] at h
  | f + 1, tag, off, s, d, ts, r, h => by
    have ih := cmp_succ f
    rw [cmp] at h ⊢
    refine ite_mono (fun h => bind_mono (fun a => ih _ _ _ _ _ a) (fun a b => ih _ _ _ _ _ b) h) (fun h => ?_) h
    refine ite_mono (fun h => ?_) (fun h => ?_) h
    · refine ite_mono (fun h => bind_mono (fun a => ih _ _ _ _ _ a) (fun a b h => h) h) (fun h => ?_) h
      refine ite_mono (fun h => h) (fun h => ?_) h
      refine ite_mono (fun h => h) (fun h => ?_) h
      refine ite_mono (fun h => h) (fun h => ?_) h
      refine ite_mono (fun h => h) (fun h => ?_) h
      refine ite_mono (fun h => bind_mono (fun a => ih _ _ _ _ _ a) (fun a b h => h) h) (fun h => ?_) h
      refine ite_mono (fun h => bind_mono (fun a => ih _ _ _ _ _ a) (fun a b h => bind_mono (fun a => ih _ _ _ _ _ a) (fun a b h => bind_mono (fun a => ih _ _ _ _ _ a) (fun a b h => h) h) h) h) (fun h => ?_) h
      refine ite_mono (fun h => bind_mono (fun a => ih _ _ _ _ _ a) (fun a b h => h) h) (fun h => ?_) h
      exact ite_mono (fun h => bind_mono (fun a => ih _ _ _ _ _ a) (fun a b h => h) h) (fun h => h) h
    · exact ite_mono (fun h => bind_mono (fun a => ih _ _ _ _ _ a) (fun a b => ih _ _ _ _ _ b) h) (fun h => h) h
theorem cmp_le {f g tag off : Nat} {s : List Ins} {d : Beh} {ts : List Tk} {r : List Ins × Beh × List Tk} (hfg : f ≤ g) (h : cmp f tag off s d ts = some r) : cmp g tag off s d ts = some r := by
  induction hfg with
  | refl => exact h
  | step _ ih => exact cmp_succ _ _ _ _ _ _ _ ih
theorem cmp_det {f g tag off : Nat} {s : List Ins} {d : Beh} {ts : List Tk} {r r' : List Ins × Beh × List Tk} (h : cmp f tag off s d ts = some r) (h' : cmp g tag off s d ts = some r') : r = r' := by
  have a := cmp_le (Nat.le_max_left f g) h
  have b := cmp_le (Nat.le_max_right f g) h'
  rw [a] at b
  exact Option.some.inj b

/-- From here on what comes of them is this, whatever stands behind. -/
def CG (lv : Nat) (g : List Tk) (d : Beh) : Prop := ∀ (off : Nat) (post : List Tk), ¬ hk post ∈ goesOn lv → ∃ f code, cmp f lv off [] (retA vN) (g ++ post) = some (code, d, post)
/-- The row goes on with these. -/
def CR (lv : Nat) (g : List Tk) (d0 d : Beh) : Prop := ∀ (off : Nat) (s : List Ins) (post : List Tk), ¬ hk post ∈ goesOn lv → ∃ f code, cmp f (lv + 4) off s d0 (g ++ post) = some (code, d, post)
theorem cr_nil {lv : Nat} (h : lv < 3) (d : Beh) : CR lv [] d d := by
  intro off s post hp
  refine ⟨1, s, ?_⟩
  rw [cmp, if_neg (by omega), if_neg (by omega), if_neg]
  · rfl
  · intro hm
    apply hp
    have e : lv + 4 - 4 = lv := by omega
    rw [e] at hm
    have : lv = 0 ∨ lv = 1 ∨ lv = 2 := by omega
    rcases this with rfl | rfl | rfl
    · simp [signs] at hm; simp [goesOn]; omega
    · simp [signs] at hm; simp [goesOn]; omega
    · simp [signs] at hm; simp [goesOn]; omega
theorem cr_cons {lv : Nat} {o : Tk} {a g : List Tk} {d0 da d : Beh} (hl : lv < 3) (ho : o.k ∈ signs lv) (ha : CG (lv + 1) a da) (hn : ∀ post, ¬ hk post ∈ goesOn lv → ¬ hk (g ++ post) ∈ goesOn (lv + 1)) (hg : CR lv g (binA (signOp o.k) d0 da) d) : CR lv (o :: (a ++ g)) d0 d := by
  intro off s post hp
  obtain ⟨f1, c1, h1⟩ := ha (off + s.length) (g ++ post) (hn post hp)
  obtain ⟨f2, c2, h2⟩ := hg off (s ++ (c1 ++ [iOp (signOp o.k)])) post hp
  refine ⟨max f1 f2 + 1, c2, ?_⟩
  rw [cmp, if_neg (by omega), if_neg (by omega)]
  have e : lv + 4 - 4 = lv := by omega
  have e3 : lv + 4 - 3 = lv + 1 := by omega
  rw [if_pos (by rw [e]; exact ho), e3]
  have e4 : (o :: (a ++ g) ++ post).tail = a ++ (g ++ post) := by simp
  rw [e4, cmp_le (Nat.le_max_left f1 f2) h1]
  exact cmp_le (Nat.le_max_right f1 f2) h2
theorem cg_row {lv : Nat} {a g : List Tk} {da d : Beh} (hl : lv < 3) (ha : CG (lv + 1) a da) (hn : ∀ post, ¬ hk post ∈ goesOn lv → ¬ hk (g ++ post) ∈ goesOn (lv + 1)) (hg : CR lv g da d) : CG lv (a ++ g) d := by
  intro off post hp
  obtain ⟨f1, c1, h1⟩ := ha off (g ++ post) (hn post hp)
  obtain ⟨f2, c2, h2⟩ := hg off c1 post hp
  refine ⟨max f1 f2 + 1, c2, ?_⟩
  rw [cmp, if_pos hl, List.append_assoc, cmp_le (Nat.le_max_left f1 f2) h1]
  exact cmp_le (Nat.le_max_right f1 f2) h2
theorem goes_up {lv : Nat} (hl : lv < 3) {q : Int} (h : ¬ q ∈ goesOn lv) : ¬ q ∈ goesOn (lv + 1) := by
  have : lv = 0 ∨ lv = 1 ∨ lv = 2 := by omega
  rcases this with rfl | rfl | rfl <;> (simp [goesOn] at h ⊢ <;> omega)
theorem sign_up {lv : Nat} (hl : lv < 3) {q : Int} (h : q ∈ signs lv) : ¬ q ∈ goesOn (lv + 1) := by
  have : lv = 0 ∨ lv = 1 ∨ lv = 2 := by omega
  rcases this with rfl | rfl | rfl <;> (simp [goesOn, signs] at h ⊢ <;> omega)
theorem cg_lift {lv : Nat} {a : List Tk} {d : Beh} (hl : lv < 3) (ha : CG (lv + 1) a d) : CG lv a d := by
  have := cg_row (g := []) hl ha (fun post hp => goes_up hl hp) (cr_nil hl d)
  rw [List.append_nil] at this; exact this
theorem cg_two {lv : Nat} {a b : List Tk} {o : Tk} {da db : Beh} (hl : lv < 3) (ho : o.k ∈ signs lv) (ha : CG (lv + 1) a da) (hb : CG (lv + 1) b db) : CG lv (a ++ o :: b) (binA (signOp o.k) da db) := by
  have hr := cr_cons (g := []) hl ho hb (fun post hp => goes_up hl hp) (cr_nil hl (binA (signOp o.k) da db))
  rw [List.append_nil] at hr
  exact cg_row hl ha (fun post _ => sign_up hl ho) hr
theorem cg_form {a : List Tk} {d : Beh} (h : CG 3 a d) : CG 0 a d := cg_lift (by omega) (cg_lift (by omega) (cg_lift (by omega) h))
theorem cg_num {t : Tk} (h : t.k = 1) (hv : valN t.x ≤ 9223372036854775807) : CG 3 [t] (retA (vI (valN t.x))) := by
  intro off post _
  refine ⟨1, [iPut (vI (valN t.x))], ?_⟩
  rw [cmp, if_neg (by omega), if_pos rfl]
  have e1 : hk ([t] ++ post) = 1 := h
  have e2 : hx ([t] ++ post) = t.x := rfl
  have e3 : ([t] ++ post).tail = post := rfl
  rw [e1, e2, e3]
  rw [if_neg (by decide), if_pos rfl, if_pos hv]
theorem cg_cellT {t : Tk} {c : Nat} (h : t.k = 5) (hc : cellN t.x = some c) : CG 3 [t] (readA ⟨c, false⟩) := by
  intro off post _
  refine ⟨1, [iRead 1 c], ?_⟩
  rw [cmp, if_neg (by omega), if_pos rfl]
  have e1 : hk ([t] ++ post) = 5 := h
  have e2 : hx ([t] ++ post) = t.x := rfl
  have e3 : ([t] ++ post).tail = post := rfl
  rw [e1, e2, e3]
  rw [if_neg (by decide), if_neg (by decide), if_neg (by decide), if_neg (by decide), if_pos rfl, hc]
  rfl
theorem cellN_name {n : Nat} (h : n < 48) : cellN (tCell n).x = some n := by
  have h1 : (UInt8.ofNat (65 + n % 6)).toNat = 65 + n % 6 := by rw [UInt8.toNat_ofNat']; omega
  have h2 : (UInt8.ofNat (49 + n / 6)).toNat = 49 + n / 6 := by rw [UInt8.toNat_ofNat']; omega
  unfold tCell tk cellN
  simp only [h1, h2]
  rw [if_pos (by omega)]
  congr 1
  omega
theorem cg_cell {n : Nat} (h : n < 48) : CG 3 [tCell n] (readA ⟨n, false⟩) := cg_cellT rfl (cellN_name h)
theorem cg_neg {a : List Tk} {d : Beh} (ha : CG 3 a d) : CG 3 (tNeg :: a) (negA d) := by
  intro off post hp
  obtain ⟨f, c, h⟩ := ha off post hp
  refine ⟨f + 1, c ++ [iOp 4], ?_⟩
  rw [cmp, if_neg (by omega), if_pos rfl]
  have e : (tNeg :: a ++ post).tail = a ++ post := rfl
  rw [e]
  show (if (23 : Int) = 23 then _ else _) = _
  rw [if_pos rfl, h]
  rfl
end Go.Proofs.YtiocnfambeochaaGreatDoor

/- Plain mathematics: what all formulas come to, in one. -/
set_option linter.unusedVariables false
set_option linter.unusedSimpArgs false
namespace Go.Proofs.YtiocnfambeochaaGreatDoor

theorem Cmpd.same {t : ByteArray} {code code' : List Ins} {d d' : Beh} (h : Cmpd t code d) (h' : Cmpd t code' d') : code' = code ∧ d' = d := by
  obtain ⟨f, rest, e⟩ := h.c
  obtain ⟨f', rest', e'⟩ := h'.c
  have := cmp_det e' e
  cases this
  exact ⟨rfl, rfl⟩
theorem Cmpd.small {t : ByteArray} {code : List Ins} {d : Beh} (h : Cmpd t code d) : code.length ≤ 90000 ∧ MI ⟨code, 0, [], []⟩ := by
  obtain ⟨f, rest, e⟩ := h.c
  obtain ⟨a1, a2, a3⟩ := cmp_ok f 0 0 [] (retA vN) _ code d rest (by omega) e (fun e => absurd e (by omega)) (fun _ => rfl)
  have hl : (rdA t.data.toList).ts.length ≤ 900 := rdA_len t.data.toList (by have := h.size; simpa using this)
  simp only [List.length_nil] at a3
  have hs : code.length ≤ 90000 := by omega
  rw [Nat.zero_add] at a1
  exact ⟨hs, { code := a1, small := hs, at' := Nat.zero_le _, len := Nat.zero_le _, vals := (fun v hv => by cases hv), gd := (fun g hg => by cases hg), gl := Nat.zero_le _, gi := (fun j g hg => by simp at hg) }⟩
/-- What each text comes to. -/
structure EnvOK (E : Env) : Prop where
  w : RightW E
  c : ∀ t code d, Cmpd t code d → FmlOK E t code ∧ E.D t = bindA d retA ∧ ActN (E.B t) (E.D t) ∧ E.B t ≤ 90000
theorem env_ex : ∃ E : Env, EnvOK E := by
  have hD : ∀ t : ByteArray, ∃ p : Beh × Nat, ∀ code d, Cmpd t code d → p.1 = bindA d retA ∧ p.2 = code.length := by
    intro t
    by_cases h : ∃ code d, Cmpd t code d
    · obtain ⟨code, d, h⟩ := h
      refine ⟨(bindA d retA, code.length), fun code' d' h' => ?_⟩
      obtain ⟨rfl, rfl⟩ := h.same h'
      exact ⟨rfl, rfl⟩
    · exact ⟨(retA vN, 0), fun code d h' => absurd ⟨code, d, h'⟩ h⟩
  have hW : ∀ (wt : Nat → Int) (o c : Nat), ∃ b : Bool, b = true ↔ ∃ m, along wt m o = c := by
    intro wt o c
    by_cases h : ∃ m, along wt m o = c
    · exact ⟨true, by simp [h]⟩
    · exact ⟨false, by simp [h]⟩
  refine ⟨⟨fun t => (Classical.choose (hD t)).1, fun t => (Classical.choose (hD t)).2, fun wt o c => Classical.choose (hW wt o c)⟩, fun wt _ o c => Classical.choose_spec (hW wt o c), fun t code d h => ?_⟩
  obtain ⟨e1, e2⟩ := Classical.choose_spec (hD t) code d h
  obtain ⟨f, rest, e⟩ := h.c
  obtain ⟨q1, q2⟩ := cmp_whole e
  obtain ⟨s1, s2⟩ := h.small
  dsimp only
  refine ⟨⟨⟨d, h⟩, ⟨code.length, ?_⟩, s2⟩, e1, ?_, ?_⟩
  · show Runs _ _ (Classical.choose (hD t)).1
    rw [e1]; exact q2
  · rw [e1, e2]; exact q1
  · rw [e2]; exact s1
end Go.Proofs.YtiocnfambeochaaGreatDoor
