/- Texts put together. -/
import Derived.Test.YtiocnfambeochaaGreatDoorQ00
import Derived.Test.YtiocnfambeochaaGreatDoorQ01
import Derived.Test.YtiocnfambeochaaGreatDoorValB
import Derived.Test.YtiocnfambeochaaGreatDoorQ04
import Derived.Test.YtiocnfambeochaaGreatDoorQ08
import Derived.RegionTactic
import Derived.BigRegion
/- Plain mathematics: how a formula's tokens are turned into instructions, and that the machine does with these what the formula says. -/
set_option linter.unusedVariables false
set_option linter.unusedSimpArgs false
namespace Go.Proofs.YtiocnfambeochaaGreatDoor

def Sits (code : List Ins) (off : Nat) (seg : List Ins) : Prop := ∃ pre post, code = pre ++ (seg ++ post) ∧ pre.length = off
theorem Sits.left {code : List Ins} {off : Nat} {a b : List Ins} (h : Sits code off (a ++ b)) : Sits code off a := by
  obtain ⟨p, q, h1, h2⟩ := h
  exact ⟨p, b ++ q, by rw [h1]; simp, h2⟩
theorem Sits.right {code : List Ins} {off : Nat} {a b : List Ins} (h : Sits code off (a ++ b)) : Sits code (off + a.length) b := by
  obtain ⟨p, q, h1, h2⟩ := h
  exact ⟨p ++ a, q, by rw [h1]; simp, by simp [h2]⟩
theorem Sits.one {code : List Ins} {off : Nat} {i : Ins} {l : List Ins} (h : Sits code off (i :: l)) : code[off]? = some i := by
  obtain ⟨p, q, h1, h2⟩ := h
  rw [h1, ← h2, List.getElem?_append_right (Nat.le_refl _), Nat.sub_self]
  rfl
def hk (ts : List Tk) : Int := match ts with | t :: _ => t.k | [] => 0
def hx (ts : List Tk) : List UInt8 := match ts with | t :: _ => t.x | [] => []
def iPut (v : V) : Ins := ⟨0, v, 0, 0⟩
def iOp (op : Nat) : Ins := ⟨op, vN, 0, 0⟩
def iRead (op c : Nat) : Ins := ⟨op, vN, c, 0⟩
def iTo (op to : Nat) : Ins := ⟨op, vN, 0, to⟩
def signs (lv : Nat) : List Int := if lv = 0 then [21, 22] else if lv = 1 then [16, 17, 20] else [18, 19]
def signOp (k : Int) : Nat := if k = 16 then 5 else if k = 17 then 6 else if k = 18 then 7 else if k = 19 then 8 else if k = 20 then 9 else if k = 21 then 10 else 11
def binA (op : Nat) (d e : Beh) : Beh := bindE d (fun x => bindE e (fun y => retA (comb op x y)))
def negA (d : Beh) : Beh := bindE d (fun v => retA (vNeg v))
def ifA (d e f : Beh) : Beh := bindE d (fun v => if v.k ≠ 2 then retA (vE 4) else if v.n = 0 then f else e)
def atV (v : V) : Beh := if v.k ≠ 3 then retA (vE 4) else match cellN v.s.data.toList with | none => retA (vE 3) | some c => readA ⟨c, false⟩
def atA (d : Beh) : Beh := bindE d atV
def badA' (d : Beh) : Beh := bindA d (fun v => retA (vB (decide (v.k = 4))))
def sumA : List Nat → V → Beh
  | [], v => retA v
  | c :: l, v => bindE (readA ⟨c, false⟩) (fun x => bindE (retA (vAdd v x)) (sumA l))
def cntA : List Nat → V → Beh
  | [], v => retA v
  | c :: l, v => bindE (readA ⟨c, true⟩) (fun x => bindE (retA (if x.k = 1 then vAdd v (vI 1) else v)) (cntA l))
def rangeL (a b : Nat) : List Nat := (List.range' (a / 6) (b / 6 + 1 - a / 6)).flatMap fun row => (List.range' (a % 6) (b % 6 + 1 - a % 6)).map fun col => row * 6 + col
def eachI (o1 o2 : Nat) (l : List Nat) : List Ins := l.flatMap fun c => [iRead o1 c, iOp o2]
def cmp : Nat → Nat → Nat → List Ins → Beh → List Tk → Option (List Ins × Beh × List Tk)
  | 0, _, _, _, _, _ => none
  | f + 1, tag, off, s, d, ts =>
    if tag < 3 then (cmp f (tag + 1) off [] (retA vN) ts).bind fun x => cmp f (tag + 4) off x.1 x.2.1 x.2.2
    else if tag = 3 then
      if hk ts = 23 then (cmp f 3 off [] (retA vN) ts.tail).bind fun x => some (x.1 ++ [iOp 4], negA x.2.1, x.2.2)
      else if hk ts = 1 then (if valN (hx ts) ≤ 9223372036854775807 then some ([iPut (vI (valN (hx ts)))], retA (vI (valN (hx ts))), ts.tail) else none)
      else if hk ts = 2 then (if (hx ts).length ≤ 1000 then some ([iPut (vT ⟨((hx ts).drop 1).dropLast.toArray⟩)], retA (vT ⟨((hx ts).drop 1).dropLast.toArray⟩), ts.tail) else none)
      else if hk ts = 3 ∨ hk ts = 4 then some ([iPut (vB (decide (hk ts = 3)))], retA (vB (decide (hk ts = 3))), ts.tail)
      else if hk ts = 5 then (cellN (hx ts)).bind fun c => some ([iRead 1 c], readA ⟨c, false⟩, ts.tail)
      else if hk ts = 12 then (cmp f 0 off [] (retA vN) ts.tail).bind fun x => some (x.1, x.2.1, x.2.2.tail)
      else if hk ts = 6 then
        (cmp f 0 off [] (retA vN) ts.tail.tail).bind fun x =>
        (cmp f 0 (off + x.1.length + 1) [] (retA vN) x.2.2.tail).bind fun y =>
        (cmp f 0 (off + x.1.length + 1 + y.1.length + 1) [] (retA vN) y.2.2.tail).bind fun z =>
          some (x.1 ++ (iTo 13 (off + x.1.length + 1 + y.1.length + 1) :: (y.1 ++ (iTo 14 (off + x.1.length + 1 + y.1.length + 1 + z.1.length) :: z.1))), ifA x.2.1 y.2.1 z.2.1, z.2.2.tail)
      else if hk ts = 7 then (cmp f 0 off [] (retA vN) ts.tail.tail).bind fun x => some (x.1 ++ [iOp 3], atA x.2.1, x.2.2.tail)
      else if hk ts = 8 then (cmp f 0 (off + 1) [] (retA vN) ts.tail.tail).bind fun x => some (iTo 15 (off + 1 + x.1.length + 1) :: (x.1 ++ [iOp 16]), badA' x.2.1, x.2.2.tail)
      else if hk ts = 9 ∨ hk ts = 10 then
        (cellN (hx ts.tail.tail)).bind fun a => (cellN (hx ts.tail.tail.tail.tail)).bind fun b =>
          some (iPut (vI 0) :: (if hk ts = 9 then eachI 1 5 (rangeL a b) else eachI 2 12 (rangeL a b)), if hk ts = 9 then sumA (rangeL a b) (vI 0) else cntA (rangeL a b) (vI 0), ts.tail.tail.tail.tail.tail.tail)
      else none
    else if hk ts ∈ signs (tag - 4) then
      (cmp f (tag - 3) (off + s.length) [] (retA vN) ts.tail).bind fun x => cmp f tag off (s ++ (x.1 ++ [iOp (signOp (hk ts))])) (binA (signOp (hk ts)) d x.2.1) x.2.2
    else some (s, d, ts)

section
variable {code : List Ins} {off fin : Nat} {d e : Beh}
theorem run_ret {n : Nat} {code : List Ins} {off : Nat} {S : List V} {G : List (Nat × Nat)} {k : V → Beh} {v : V} (h : Cont n code off S G k) (hv : OKV v) : Runs n ⟨code, off, S ++ [v], G⟩ (bindA (retA v) k) := by
  rw [bind_ret]; exact h.val hv
theorem sg_put {v : V} (hv : OKV v) (hi : code[off]? = some (iPut v)) : Sg code off (off + 1) (retA v) := by
  refine ⟨0, fun S G n k hS hc => ?_⟩
  refine runs_step (m' := ⟨code, off + 1, S ++ [v], G⟩) ?_ (run_ret hc hv)
  rw [head_at hi hS.fail]
  rfl
theorem sg_read {c : Nat} (o : Nat) (ho : o = 1 ∨ o = 2) (hc : c < 48) (hi : code[off]? = some (iRead o c)) : Sg code off (off + 1) (readA ⟨c, decide (o = 2)⟩) := by
  refine ⟨1, fun S G n k hS hk => ?_⟩
  unfold readA
  rw [bind_ask]
  refine runs_ask (m' := ⟨code, off + 1, S, G⟩) ?_ hc fun x hx => run_ret hk hx
  rw [head_at hi hS.fail]
  unfold stepM iRead
  simp only
  rw [if_neg (by omega), if_pos ho]
theorem cont_e {n : Nat} {S : List V} {G : List (Nat × Nat)} {k : V → Beh} {g : V → Beh} {mid : Nat} {fin : Nat} (hc : Cont n code fin S G k) {n' : Nat} (hn : n ≤ n')
    (h : ∀ v, OKV v → v.k ≠ 4 → Runs n' ⟨code, mid, S ++ [v], G⟩ (bindA (g v) k)) : Cont n' code mid S G (fun v => bindA (if v.k = 4 then retA v else g v) k) := by
  refine ⟨fun v hv h4 => ?_, fun v hv h4 p T => ?_⟩
  · simp only [if_neg h4]; exact h v hv h4
  · simp only [if_pos h4]; rw [bind_ret]; exact (hc.err hv h4 p T).le hn
theorem sg_bindE {g : V → Beh} {mid : Nat} (h : Sg code off mid d) (m2 : Nat) (hg : ∀ v, OKV v → v.k ≠ 4 → ∀ S G n k, NF S → Cont n code fin S G k → Runs (n + m2) ⟨code, mid, S ++ [v], G⟩ (bindA (g v) k)) : Sg code off fin (bindE d g) := by
  obtain ⟨m1, h⟩ := h
  refine ⟨m2 + m1, fun S G n k hS hc => ?_⟩
  unfold bindE
  rw [bind_assoc, ← Nat.add_assoc]
  exact h S G (n + m2) _ hS (cont_e hc (by omega) fun v hv h4 => hg v hv h4 S G n k hS hc)
theorem step_top {S : List V} {G : List (Nat × Nat)} {v : V} {i : Ins} {p : Nat} (hi : code[p]? = some i) (h4 : v.k ≠ 4) :
    headM ⟨code, p, S ++ [v], G⟩ = match stepM ⟨code, p, S ++ [v], G⟩ i with | none => none | some (m', none) => some (.inl m') | some (m', some nd) => some (.inr (m', some nd)) :=
  head_at hi (NF.app h4).fail
theorem sg_neg {mid : Nat} (h : Sg code off mid d) (hi : code[mid]? = some (iOp 4)) : Sg code off (mid + 1) (negA d) := by
  refine sg_bindE h 0 fun v hv h4 S G n k hS hc => ?_
  refine runs_step (m' := ⟨code, mid + 1, S ++ [vNeg v], G⟩) ?_ (run_ret hc (ok_neg v))
  rw [step_top hi h4]
  simp [stepM, iOp]
theorem sg_bin {op mid mid2 : Nat} (h : Sg code off mid d) (h2 : Sg code mid mid2 e) (ho : 5 ≤ op ∧ op ≤ 11) (hi : code[mid2]? = some (iOp op)) : Sg code off (mid2 + 1) (binA op d e) := by
  obtain ⟨m2, h2⟩ := h2
  refine sg_bindE h m2 fun v hv h4 S G n k hS hc => ?_
  unfold bindE
  rw [bind_assoc]
  refine h2 (S ++ [v]) G n _ (NF.app h4) ⟨fun u hu hu4 => ?_, fun u hu hu4 p T => ?_⟩
  · simp only [if_neg hu4]
    refine runs_step (m' := ⟨code, mid2 + 1, S ++ [comb op v u], G⟩) ?_ (run_ret hc (ok_comb op v u))
    rw [step_top hi hu4]
    unfold stepM iOp
    simp only
    rw [if_neg (by omega), if_neg (by omega), if_neg (by omega), if_neg (by omega), List.getLast?_concat]
    simp only
    rw [if_neg (by omega), if_neg (by omega), if_neg (by omega), if_neg (by omega), if_neg (by omega), List.dropLast_concat, List.getLast?_concat]
    simp only
    rw [List.dropLast_concat, if_neg (by omega)]
  · simp only [if_pos hu4]
    rw [bind_ret]
    have := hc.err hu hu4 p ([v] ++ T)
    simpa using this
theorem sg_if {f : Beh} {m1 m2 m3 : Nat} {t1 t2 : Nat} (h1 : Sg code off m1 d) (hi1 : code[m1]? = some (iTo 13 (m2 + 1))) (h2 : Sg code (m1 + 1) m2 e) (hi2 : code[m2]? = some (iTo 14 m3)) (h3 : Sg code (m2 + 1) m3 f) : Sg code off m3 (ifA d e f) := by
  obtain ⟨a2, h2⟩ := h2
  obtain ⟨a3, h3⟩ := h3
  refine sg_bindE h1 (a2 + a3) fun v hv h4 S G n k hS hc => ?_
  by_cases hb : v.k = 2
  · simp only [if_neg (not_not_intro hb)]
    by_cases h0 : v.n = 0
    · simp only [if_pos h0]
      refine runs_step (m' := ⟨code, m2 + 1, S, G⟩) ?_ ((h3 S G n k hS hc).le (by omega))
      rw [step_top hi1 h4]
      simp [stepM, iTo, hb, h0]
    · simp only [if_neg h0]
      refine runs_step (m' := ⟨code, m1 + 1, S, G⟩) ?_ ((h2 S G n k hS ⟨fun u hu hu4 => ?_, fun u hu hu4 p T => hc.err hu hu4 p T⟩).le (by omega))
      · rw [step_top hi1 h4]
        simp [stepM, iTo, hb, h0]
      · refine runs_step (m' := ⟨code, m3, S ++ [u], G⟩) ?_ (hc.val hu)
        rw [step_top hi2 hu4]
        simp [stepM, iTo]
  · simp only [if_pos hb]
    refine runs_step (m' := ⟨code, m1 + 1, S ++ [vE 4], G⟩) ?_ ?_
    · rw [step_top hi1 h4]
      simp [stepM, iTo, hb]
    · rw [bind_ret]
      have := (hc.err ok_e4 rfl (m1 + 1) []).le (Nat.le_add_right n (a2 + a3))
      simpa using this
theorem sg_at {mid : Nat} (h : Sg code off mid d) (hi : code[mid]? = some (iOp 3)) : Sg code off (mid + 1) (atA d) := by
  refine sg_bindE h 1 fun v hv h4 S G n k hS hc => ?_
  unfold atV
  by_cases hb : v.k = 3
  · simp only [if_neg (not_not_intro hb)]
    cases hn : cellN v.s.data.toList with
    | none =>
      refine runs_step (m' := ⟨code, mid + 1, S ++ [vE 3], G⟩) ?_ ((run_ret hc ok_e3).le (by omega))
      rw [step_top hi h4]
      simp [stepM, iOp, hb, hn]
    | some c =>
      show Runs (n + 1) _ (bindA (readA ⟨c, false⟩) k)
      unfold readA
      rw [bind_ask]
      refine runs_ask (m' := ⟨code, mid + 1, S, G⟩) ?_ (cellN_lt hn) fun x hx => run_ret hc hx
      rw [step_top hi h4]
      simp [stepM, iOp, hb, hn]
  · simp only [if_pos hb]
    refine runs_step (m' := ⟨code, mid + 1, S ++ [vE 4], G⟩) ?_ ((run_ret hc ok_e4).le (by omega))
    rw [step_top hi h4]
    simp [stepM, iOp, hb]
theorem sg_bad {mid : Nat} (hi0 : code[off]? = some (iTo 15 (mid + 1))) (h : Sg code (off + 1) mid d) (hi : code[mid]? = some (iOp 16)) : Sg code off (mid + 1) (badA' d) := by
  obtain ⟨m1, h⟩ := h
  refine ⟨m1, fun S G n k hS hc => ?_⟩
  refine runs_step (m' := ⟨code, off + 1, S, G ++ [(mid + 1, S.length)]⟩) ?_ ?_
  · rw [head_at hi0 hS.fail]
    simp [stepM, iTo]
  · unfold badA'
    rw [bind_assoc]
    refine h S _ n _ hS ⟨fun v hv h4 => ?_, fun v hv h4 p T => ?_⟩
    · have e : decide (v.k = 4) = false := decide_eq_false h4
      dsimp only
      rw [e]
      refine runs_step (m' := ⟨code, mid + 1, S ++ [vB false], G⟩) ?_ (run_ret hc (ok_b false))
      rw [step_top hi h4]
      simp [stepM, iOp]
    · have e : decide (v.k = 4) = true := decide_eq_true h4
      dsimp only
      rw [e]
      refine runs_step (m' := ⟨code, mid + 1, S ++ [vB true], G⟩) ?_ (run_ret hc (ok_b true))
      unfold headM
      rw [if_pos (by unfold failB; simp only [List.getLast?_concat]; exact e)]
      simp only [List.getLast?_concat, List.dropLast_concat]
      rw [if_pos (by simp)]
      simp
theorem run_sum : ∀ (l : List Nat) (p : Nat) (v : V), (∀ c ∈ l, c < 48) → Sits code p (eachI 1 5 l) → OKV v → v.k ≠ 4 → ∀ S G n k, NF S → Cont n code (p + (eachI 1 5 l).length) S G k → Runs (n + l.length) ⟨code, p, S ++ [v], G⟩ (bindA (sumA l v) k)
  | [], p, v, _, _, hv, _, S, G, n, k, _, hc => by
    exact run_ret (by simpa [eachI] using hc) hv
  | c :: l, p, v, hl, hs, hv, h4, S, G, n, k, hS, hc => by
    have es : eachI 1 5 (c :: l) = [iRead 1 c, iOp 5] ++ eachI 1 5 l := rfl
    rw [es] at hs hc
    have i1 := hs.left.one
    have i2 : code[p + 1]? = some (iOp 5) := (Sits.right (a := [iRead 1 c]) (b := [iOp 5]) hs.left).one
    have hc' : Cont n code (p + 2 + (eachI 1 5 l).length) S G k := by
      have e : p + ([iRead 1 c, iOp 5] ++ eachI 1 5 l).length = p + 2 + (eachI 1 5 l).length := by simp; omega
      rw [e] at hc; exact hc
    have h1 := sg_read (code := code) (off := p) 1 (.inl rfl) (hl c List.mem_cons_self) i1
    show Runs _ _ (bindA (bindE (readA ⟨c, false⟩) _) k)
    unfold bindE readA
    rw [bind_assoc, bind_ask]
    simp only [bind_ret]
    refine runs_ask (m' := ⟨code, p + 1, S ++ [v], G⟩) (nd := ⟨c, false⟩) ?_ (hl c List.mem_cons_self) (n := n + l.length) ?_
    · rw [step_top i1 h4]
      simp [stepM, iRead]
    · intro x hx
      show Runs (n + l.length) ⟨code, p + 1, S ++ [v] ++ [x], G⟩ _
      by_cases hx4 : x.k = 4
      · simp only [if_pos hx4]
        rw [bind_ret]
        exact (hc.err hx hx4 (p + 1) [v]).le (by omega)
      · simp only [if_neg hx4]
        refine runs_step (m' := ⟨code, p + 2, S ++ [vAdd v x], G⟩) ?_ ?_
        · rw [step_top i2 hx4]
          simp [stepM, iOp, comb]
        · by_cases ha : (vAdd v x).k = 4
          · simp only [if_pos ha]
            rw [bind_ret]
            have := (hc.err (ok_add v x) ha (p + 2) []).le (Nat.le_add_right n l.length)
            simpa using this
          · simp only [if_neg ha]
            exact run_sum l (p + 2) _ (fun c hc => hl c (List.mem_cons_of_mem _ hc)) hs.right (ok_add v x) ha S G n k hS hc'
theorem run_cnt : ∀ (l : List Nat) (p : Nat) (v : V), (∀ c ∈ l, c < 48) → Sits code p (eachI 2 12 l) → OKV v → v.k ≠ 4 → ∀ S G n k, NF S → Cont n code (p + (eachI 2 12 l).length) S G k → Runs (n + l.length) ⟨code, p, S ++ [v], G⟩ (bindA (cntA l v) k)
  | [], p, v, _, _, hv, _, S, G, n, k, _, hc => by
    exact run_ret (by simpa [eachI] using hc) hv
  | c :: l, p, v, hl, hs, hv, h4, S, G, n, k, hS, hc => by
    have es : eachI 2 12 (c :: l) = [iRead 2 c, iOp 12] ++ eachI 2 12 l := rfl
    rw [es] at hs hc
    have i1 := hs.left.one
    have i2 : code[p + 1]? = some (iOp 12) := (Sits.right (a := [iRead 2 c]) (b := [iOp 12]) hs.left).one
    have hc' : Cont n code (p + 2 + (eachI 2 12 l).length) S G k := by
      have e : p + ([iRead 2 c, iOp 12] ++ eachI 2 12 l).length = p + 2 + (eachI 2 12 l).length := by simp; omega
      rw [e] at hc; exact hc
    show Runs _ _ (bindA (bindE (readA ⟨c, true⟩) _) k)
    unfold bindE readA
    rw [bind_assoc, bind_ask]
    simp only [bind_ret]
    refine runs_ask (m' := ⟨code, p + 1, S ++ [v], G⟩) (nd := ⟨c, true⟩) ?_ (hl c List.mem_cons_self) (n := n + l.length) ?_
    · rw [step_top i1 h4]
      simp [stepM, iRead]
    · intro x hx
      show Runs (n + l.length) ⟨code, p + 1, S ++ [v] ++ [x], G⟩ _
      by_cases hx4 : x.k = 4
      · simp only [if_pos hx4]
        rw [bind_ret]
        exact (hc.err hx hx4 (p + 1) [v]).le (by omega)
      · simp only [if_neg hx4]
        by_cases h1 : x.k = 1
        · simp only [if_pos h1]
          refine runs_step (m' := ⟨code, p + 2, S ++ [vAdd v (vI 1)], G⟩) ?_ ?_
          · rw [step_top i2 hx4]
            simp [stepM, iOp, h1]
          · by_cases ha : (vAdd v (vI 1)).k = 4
            · simp only [if_pos ha]
              rw [bind_ret]
              have := (hc.err (ok_add v (vI 1)) ha (p + 2) []).le (Nat.le_add_right n l.length)
              simpa using this
            · simp only [if_neg ha]
              exact run_cnt l (p + 2) _ (fun c hc => hl c (List.mem_cons_of_mem _ hc)) hs.right (ok_add v (vI 1)) ha S G n k hS hc'
        · simp only [if_neg h1, if_neg h4]
          refine runs_step (m' := ⟨code, p + 2, S ++ [v], G⟩) ?_ (run_cnt l (p + 2) _ (fun c hc => hl c (List.mem_cons_of_mem _ hc)) hs.right hv h4 S G n k hS hc')
          rw [step_top i2 hx4]
          simp [stepM, iOp, h1]
end
theorem rangeL_lt {a b : Nat} (ha : a < 48) (hb : b < 48) : ∀ c ∈ rangeL a b, c < 48 := by
  intro c hc
  unfold rangeL at hc
  rw [List.mem_flatMap] at hc
  obtain ⟨row, h1, h2⟩ := hc
  rw [List.mem_map] at h2
  obtain ⟨col, h3, rfl⟩ := h2
  rw [List.mem_range'_1] at h1 h3
  omega

theorem bind_some {α β : Type} {x : Option α} {g : α → Option β} {b : β} (h : x.bind g = some b) : ∃ a, x = some a ∧ g a = some b := by
  cases x with
  | none => cases h
  | some a => exact ⟨a, rfl, h⟩
theorem signs_op {lv : Nat} {q : Int} (h : q ∈ signs lv) : 5 ≤ signOp q ∧ signOp q ≤ 11 := by
  unfold signOp
  repeat' split
  all_goals omega
theorem cmp_sg (code : List Ins) : ∀ (f tag off : Nat) (s : List Ins) (d : Beh) (ts : List Tk) (seg : List Ins) (d' : Beh) (rest : List Tk), tag < 7 → cmp f tag off s d ts = some (seg, d', rest) →
    (3 < tag → Sits code off seg → Sits code off s → Sg code off (off + s.length) d) → Sits code off seg → (3 < tag → ∃ t, seg = s ++ t) ∧ Sg code off (off + seg.length) d'
  | 0, _, _, _, _, _, _, _, _, _, h, _, _ => by simp [cmp] at h
  | f + 1, tag, off, s, d, ts, seg, d', rest, htag, h, hp, hs => by
    have ih := cmp_sg code f
    rw [cmp] at h
    by_cases h3 : tag < 3
    · rw [if_pos h3] at h
      obtain ⟨x, hx, h⟩ := bind_some h
      obtain ⟨s1, d1, r1⟩ := x
      obtain ⟨i1, i2⟩ := ih (tag + 4) off s1 d1 r1 seg d' rest (by omega) h (fun _ _ hs1 => (ih (tag + 1) off _ _ ts s1 d1 r1 (by omega) hx (fun e => absurd e (by omega)) hs1).2) hs
      exact ⟨fun e => absurd e (by omega), i2⟩
    rw [if_neg h3] at h
    by_cases t3 : tag = 3
    · rw [if_pos t3] at h
      refine ⟨fun e => absurd e (by omega), ?_⟩
      by_cases k23 : hk ts = 23
      · rw [if_pos k23] at h
        obtain ⟨⟨s1, d1, r1⟩, hx, h⟩ := bind_some h
        cases h
        have j := (ih 3 off _ _ _ s1 d1 r1 (by omega) hx (fun e => absurd e (by omega)) hs.left).2
        rw [List.length_append, List.length_singleton, ← Nat.add_assoc]
        exact sg_neg j hs.right.one
      rw [if_neg k23] at h
      by_cases k1 : hk ts = 1
      · rw [if_pos k1] at h
        split at h
        · rename_i hv
          cases h
          exact sg_put (ok_i (by unfold I64; omega)) hs.one
        · cases h
      rw [if_neg k1] at h
      by_cases k2 : hk ts = 2
      · rw [if_pos k2] at h
        split at h
        · rename_i hv
          cases h
          exact sg_put (ok_t (by simp only [ByteArray.size, List.size_toArray, List.length_dropLast, List.length_drop]; omega)) hs.one
        · cases h
      rw [if_neg k2] at h
      by_cases k3 : hk ts = 3 ∨ hk ts = 4
      · rw [if_pos k3] at h
        cases h
        exact sg_put (ok_b _) hs.one
      rw [if_neg k3] at h
      by_cases k5 : hk ts = 5
      · rw [if_pos k5] at h
        obtain ⟨c, hc, h⟩ := bind_some h
        cases h
        exact sg_read 1 (.inl rfl) (cellN_lt hc) hs.one
      rw [if_neg k5] at h
      by_cases k12 : hk ts = 12
      · rw [if_pos k12] at h
        obtain ⟨⟨s1, d1, r1⟩, hx, h⟩ := bind_some h
        cases h
        exact (ih 0 off _ _ _ _ _ r1 (by omega) hx (fun e => absurd e (by omega)) hs).2
      rw [if_neg k12] at h
      by_cases k6 : hk ts = 6
      · rw [if_pos k6] at h
        obtain ⟨⟨s1, d1, r1⟩, hx, h⟩ := bind_some h
        obtain ⟨⟨s2, d2, r2⟩, hy, h⟩ := bind_some h
        obtain ⟨⟨s3, d3, r3⟩, hz, h⟩ := bind_some h
        cases h
        dsimp only at hs hy hz ⊢
        have e1 : ∀ (i : Ins) (l : List Ins), i :: l = [i] ++ l := fun _ _ => rfl
        have p2 : Sits code (off + s1.length + 1) (s2 ++ (iTo 14 (off + s1.length + 1 + s2.length + 1 + s3.length) :: s3)) := by
          have := hs.right; rw [e1] at this; exact this.right
        have p3 : Sits code (off + s1.length + 1 + s2.length + 1) s3 := by
          have := p2.right; rw [e1] at this; exact this.right
        have j1 := (ih 0 off _ _ _ s1 d1 r1 (by omega) hx (fun e => absurd e (by omega)) hs.left).2
        have j2 := (ih 0 _ _ _ _ s2 d2 r2 (by omega) hy (fun e => absurd e (by omega)) p2.left).2
        have j3 := (ih 0 _ _ _ _ s3 d3 r3 (by omega) hz (fun e => absurd e (by omega)) p3).2
        have := sg_if (t1 := 0) (t2 := 0) j1 hs.right.one j2 p2.right.one j3
        have el : off + (s1 ++ iTo 13 (off + s1.length + 1 + s2.length + 1) :: (s2 ++ iTo 14 (off + s1.length + 1 + s2.length + 1 + s3.length) :: s3)).length = off + s1.length + 1 + s2.length + 1 + s3.length := by simp; omega
        rw [el]; exact this
      rw [if_neg k6] at h
      by_cases k7 : hk ts = 7
      · rw [if_pos k7] at h
        obtain ⟨⟨s1, d1, r1⟩, hx, h⟩ := bind_some h
        cases h
        have j := (ih 0 off _ _ _ s1 d1 r1 (by omega) hx (fun e => absurd e (by omega)) hs.left).2
        rw [List.length_append, List.length_singleton, ← Nat.add_assoc]
        exact sg_at j hs.right.one
      rw [if_neg k7] at h
      by_cases k8 : hk ts = 8
      · rw [if_pos k8] at h
        obtain ⟨⟨s1, d1, r1⟩, hx, h⟩ := bind_some h
        cases h
        dsimp only at hs hx ⊢
        have p1 : Sits code (off + 1) (s1 ++ [iOp 16]) := Sits.right (a := [_]) hs
        have j := (ih 0 (off + 1) _ _ _ s1 d1 r1 (by omega) hx (fun e => absurd e (by omega)) p1.left).2
        have := sg_bad hs.one j p1.right.one
        have el : off + (iTo 15 (off + 1 + s1.length + 1) :: (s1 ++ [iOp 16])).length = off + 1 + s1.length + 1 := by simp; omega
        rw [el]; exact this
      rw [if_neg k8] at h
      by_cases k9 : hk ts = 9 ∨ hk ts = 10
      · rw [if_pos k9] at h
        obtain ⟨a, ha, h⟩ := bind_some h
        obtain ⟨b, hb, h⟩ := bind_some h
        cases h
        have hl := rangeL_lt (cellN_lt ha) (cellN_lt hb)
        by_cases k : hk ts = 9
        · simp only [if_pos k] at hs ⊢
          refine ⟨(rangeL a b).length, fun S G n k hS hc => ?_⟩
          refine runs_step (m' := ⟨code, off + 1, S ++ [vI 0], G⟩) ?_ (run_sum (rangeL a b) (off + 1) (vI 0) hl (Sits.right (a := [_]) hs) okv_zero (by unfold vI; decide) S G n k hS (by rw [List.length_cons, ← Nat.add_assoc, Nat.add_right_comm] at hc; exact hc))
          rw [head_at hs.one hS.fail]
          rfl
        · simp only [if_neg k] at hs ⊢
          refine ⟨(rangeL a b).length, fun S G n k hS hc => ?_⟩
          refine runs_step (m' := ⟨code, off + 1, S ++ [vI 0], G⟩) ?_ (run_cnt (rangeL a b) (off + 1) (vI 0) hl (Sits.right (a := [_]) hs) okv_zero (by unfold vI; decide) S G n k hS (by rw [List.length_cons, ← Nat.add_assoc, Nat.add_right_comm] at hc; exact hc))
          rw [head_at hs.one hS.fail]
          rfl
      rw [if_neg k9] at h
      cases h
    rw [if_neg t3] at h
    by_cases hq : hk ts ∈ signs (tag - 4)
    · rw [if_pos hq] at h
      obtain ⟨⟨s1, d1, r1⟩, hx, h⟩ := bind_some h
      dsimp only at h
      have main := ih tag off (s ++ (s1 ++ [iOp (signOp (hk ts))])) (binA (signOp (hk ts)) d d1) r1 seg d' rest htag h (fun _ hseg hs1 => by
        have j1 := hp (by omega) hs hs1.left
        have j2 := (ih (tag - 3) (off + s.length) _ _ _ s1 d1 r1 (by omega) hx (fun e => absurd e (by omega)) hs1.right.left).2
        have := sg_bin j1 j2 (signs_op hq) hs1.right.right.one
        have el : off + (s ++ (s1 ++ [iOp (signOp (hk ts))])).length = off + s.length + s1.length + 1 := by simp; omega
        rw [el]; exact this) hs
      refine ⟨fun e => ?_, main.2⟩
      obtain ⟨t, ht⟩ := main.1 e
      exact ⟨s1 ++ [iOp (signOp (hk ts))] ++ t, by rw [ht]; simp⟩
    · rw [if_neg hq] at h
      cases h
      exact ⟨fun _ => ⟨[], by simp⟩, hp (by omega) hs hs⟩
theorem cmp_runs {f : Nat} {ts rest : List Tk} {code : List Ins} {d : Beh} (h : cmp f 0 0 [] (retA vN) ts = some (code, d, rest)) : ∃ n, Runs n ⟨code, 0, [], []⟩ (bindA d retA) := by
  obtain ⟨_, m, hm⟩ := cmp_sg code f 0 0 [] (retA vN) ts code d rest (by omega) h (fun e => absurd e (by omega)) ⟨[], [], by simp, rfl⟩
  have := hm [] [] 0 retA (by intro v hv; cases hv) ⟨fun v hv h4 => ?_, fun v hv h4 p T => ?_⟩
  · exact ⟨_, this⟩
  · refine ⟨1, ⟨code, 0 + code.length, [] ++ [v], []⟩, v, ?_, List.getLast?_concat, hv, rfl⟩
    rw [goM]
    unfold headM
    rw [if_neg (by unfold failB; simp [h4])]
    simp
  · refine ⟨1, ⟨code, p, [] ++ T ++ [v], []⟩, v, ?_, List.getLast?_concat, hv, rfl⟩
    rw [goM]
    unfold headM
    rw [if_pos (by unfold failB; simp [h4])]
    simp
end Go.Proofs.YtiocnfambeochaaGreatDoor

/- The machine in memory: its stack of values; top, take, put. -/
set_option linter.unusedVariables false
set_option linter.unusedSimpArgs false
namespace Go.Proofs.YtiocnfambeochaaGreatDoor
open Go.RowKit

def vC (v : V) : List Value := [.int .i64 v.k, .int .i64 v.n, .string v.s]
def gC (g : Nat × Nat) : List Value := [.int .i64 g.1, .int .i64 g.2]
def insC (i : Ins) : List Value := [.int .i64 i.op, .int .i64 i.v.k, .int .i64 i.v.n, .string i.v.s, .int .i64 i.cell, .int .i64 i.to]
structure Chg (own : Nat → Nat) (C : Nat → Prop) (b lo hi : Nat) (w w' : World) : Prop where
  os : w'.os = w.os
  tape : w'.tape = w.tape
  output : w'.output = w.output
  size : w.heap.size ≤ w'.heap.size
  blk : ∀ k, k < w.heap.size → k ≠ b → ¬ C (own k) → w'.heap[k]? = w.heap[k]?
  row : ∀ cs t, w.heap[b]? = some (.cells cs t (0, 0)) → ∃ cs', w'.heap[b]? = some (.cells cs' t (0, 0)) ∧ cs'.size = cs.size ∧ ∀ j, (j < lo ∨ hi ≤ j) → cs'[j]? = cs[j]?
section
variable {own own' : Nat → Nat} {C C' : Nat → Prop} {b lo hi : Nat} {w w1 w2 : World}
theorem Chg.refl (own : Nat → Nat) (C : Nat → Prop) (b lo hi : Nat) (w : World) : Chg own C b lo hi w w := ⟨rfl, rfl, rfl, Nat.le_refl _, fun _ _ _ _ => rfl, fun cs t h => ⟨cs, h, rfl, fun _ _ => rfl⟩⟩
theorem Chg.trans (h : Chg own C b lo hi w w1) (g : Chg own' C b lo hi w1 w2) (ho : ∀ k, k < w.heap.size → own' k = own k) : Chg own C b lo hi w w2 :=
  ⟨g.os.trans h.os, g.tape.trans h.tape, g.output.trans h.output, Nat.le_trans h.size g.size,
    fun k hk hb hc => (g.blk k (Nat.lt_of_lt_of_le hk h.size) hb (by rw [ho k hk]; exact hc)).trans (h.blk k hk hb hc),
    fun cs t hc => by
      obtain ⟨c1, a1, a2, a3⟩ := h.row cs t hc
      obtain ⟨c2, b1, b2, b3⟩ := g.row c1 t a1
      exact ⟨c2, b1, by rw [b2, a2], fun j hj => by rw [b3 j hj, a3 j hj]⟩⟩
theorem Chg.mono {lo' hi' : Nat} (h : Chg own C b lo hi w w1) (hC : ∀ c, C c → C' c) (h1 : lo' ≤ lo) (h2 : hi ≤ hi') : Chg own C' b lo' hi' w w1 :=
  ⟨h.os, h.tape, h.output, h.size, fun k hk hb hc => h.blk k hk hb (fun h => hc (hC _ h)), fun cs t hc => by
    obtain ⟨c1, a1, a2, a3⟩ := h.row cs t hc
    exact ⟨c1, a1, a2, fun j hj => a3 j (by omega)⟩⟩
theorem Chg.below (h : Below w.heap.size w w1) (hb : b < w.heap.size) : Chg own C b lo hi w w1 :=
  ⟨h.os, h.tape, h.output, h.size, fun k hk _ _ => h.block k hk, fun cs t hc => ⟨cs, by rw [h.block b hb]; exact hc, rfl, fun _ _ => rfl⟩⟩
theorem Chg.set (w : World) (b : Nat) (j : Nat) (v : Value) (own : Nat → Nat) (C : Nat → Prop) : Chg own C b j (j + 1) w (w.setCell ⟨b, j, none⟩ v) :=
  ⟨rfl, rfl, rfl, by simp [World.setCell], fun k _ hk _ => Below.heap_setCell _ _ _ _ hk, fun cs t hc => by
    have hlt := (Array.getElem?_eq_some_iff.1 hc).1
    have h' : w.heap[b] = .cells cs t (0, 0) := (Array.getElem?_eq_some_iff.1 hc).2
    refine ⟨cs.setIfInBounds j v, ?_, by simp, fun i hi => Array.getElem?_setIfInBounds_ne (by omega)⟩
    show (w.heap.modify b _)[b]? = _
    rw [Array.getElem?_eq_getElem (by simpa using hlt), Array.getElem_modify_self, h']
    rfl⟩
theorem Chg.cell (h : Chg own C b lo hi w w1) {cs : Array Value} {t : TypeId} (hb : w.heap[b]? = some (.cells cs t (0, 0))) {j : Nat} (hj : j < lo ∨ hi ≤ j) : w1.cell? ⟨b, j, none⟩ = w.cell? ⟨b, j, none⟩ := by
  obtain ⟨c1, a1, a2, a3⟩ := h.row cs t hb
  rw [cell_of_row w1 b j c1 t (0, 0) a1, cell_of_row w b j cs t (0, 0) hb, a3 j hj]
end
structure SlC (w : World) (own : Nat → Nat) (b col : Nat) (e : TypeId) (size : Nat) (v : Value) (n : Nat) (xs : List Value) : Prop where
  sl : Slc w e size v n xs
  col : ∀ g, v.ownBlock = some g → own g = col ∧ g ≠ b
theorem SlC.chg {own : Nat → Nat} {C : Nat → Prop} {b lo hi : Nat} {w w1 : World} {col : Nat} {e : TypeId} {size : Nat} {v : Value} {n : Nat} {xs : List Value} (h : SlC w own b col e size v n xs) (g : Chg own C b lo hi w w1) (hc : ¬ C col) : SlC w1 own b col e size v n xs :=
  ⟨h.sl.kept fun k hk => g.blk k (h.sl.lt k hk) (h.col k hk).2 (by rw [(h.col k hk).1]; exact hc), h.col⟩
theorem SlC.own {own own' : Nat → Nat} {b : Nat} {w : World} {col : Nat} {e : TypeId} {size : Nat} {v : Value} {n : Nat} {xs : List Value} (h : SlC w own b col e size v n xs) (ho : ∀ k, k < w.heap.size → own' k = own k) : SlC w own' b col e size v n xs :=
  ⟨h.sl, fun g hg => ⟨by rw [ho g (h.sl.lt g hg)]; exact (h.col g hg).1, (h.col g hg).2⟩⟩
def VS (w : World) (own : Nat → Nat) (b o cv : Nat) (l : List V) : Prop := ∃ v, w.cell? ⟨b, o + 5, none⟩ = some v ∧ SlC w own b cv 52 3 v l.length (l.flatMap vC)
def Blk (w : World) (b o : Nat) : Prop := ∃ cs t, w.heap[b]? = some (.cells cs t (0, 0)) ∧ o + 7 ≤ cs.size
theorem Blk.lt {w : World} {b o : Nat} (h : Blk w b o) : b < w.heap.size := by obtain ⟨cs, t, h1, _⟩ := h; exact (Array.getElem?_eq_some_iff.1 h1).1
theorem Blk.chg {own : Nat → Nat} {C : Nat → Prop} {b o lo hi : Nat} {w w1 : World} (h : Blk w b o) (g : Chg own C b lo hi w w1) : Blk w1 b o := by
  obtain ⟨cs, t, h1, h2⟩ := h
  obtain ⟨c1, a1, a2, _⟩ := g.row cs t h1
  exact ⟨c1, t, a1, by omega⟩
theorem Blk.frozen {w : World} {b o : Nat} (h : Blk w b o) (j : Nat) : w.frozen? ⟨b, j, none⟩ = false := by obtain ⟨cs, t, h1, _⟩ := h; simp [World.frozen?, h1]
theorem Blk.cell {w : World} {b o : Nat} (h : Blk w b o) {j : Nat} (hj : j < o + 7) : ∃ v, w.cell? ⟨b, j, none⟩ = some v := by
  obtain ⟨cs, t, h1, h2⟩ := h
  exact ⟨cs[j]'(by omega), by rw [cell_of_row w b j cs t (0, 0) h1]; exact Array.getElem?_eq_getElem _⟩
theorem flat3_get {α : Type} {f : α → List Value} {m : Nat} (hf : ∀ a, (f a).length = m) : ∀ (l : List α) (i : Nat) (a : α) (t : Nat) (u : Value), l[i]? = some a → (f a)[t]? = some u → (l.flatMap f)[i * m + t]? = some u
  | [], i, a, t, u, h, _ => by simp at h
  | x :: l, 0, a, t, u, h, hu => by
    simp at h; subst h
    rw [Nat.zero_mul, Nat.zero_add, List.flatMap_cons, List.getElem?_append_left (by rw [List.getElem?_eq_some_iff] at hu; exact hu.1)]; exact hu
  | x :: l, i + 1, a, t, u, h, hu => by
    rw [List.getElem?_cons_succ] at h
    rw [List.flatMap_cons, List.getElem?_append_right (by rw [hf]; rw [Nat.succ_mul]; omega), hf, show (i + 1) * m + t - m = i * m + t by rw [Nat.succ_mul]; omega]
    exact flat3_get hf l i a t u h hu
theorem flatLen3 {α : Type} {f : α → List Value} {m : Nat} (hf : ∀ a, (f a).length = m) : ∀ (l : List α), (l.flatMap f).length = l.length * m
  | [] => by simp
  | x :: l => by rw [List.flatMap_cons, List.length_append, hf, flatLen3 hf l, List.length_cons, Nat.succ_mul]; omega
theorem Slc.at {w : World} {e : TypeId} {size : Nat} {v : Value} {n : Nat} {xs : List Value} (h : Slc w e size v n xs) (hn : 0 < n) : ∃ g o cap, v = .slice (some ⟨g, o, none⟩) n cap ∧ n ≤ cap := by
  rcases h.2 with ⟨_, h0⟩ | ⟨g, o, cap, cur, rfl, _, hc, _⟩
  · omega
  · exact ⟨g, o, cap, rfl, hc⟩
theorem Slc.cut {w : World} {e : TypeId} {size : Nat} {g o n cap : Nat} {xs : List Value} (h : Slc w e size (.slice (some ⟨g, o, none⟩) n cap) n xs) {m : Nat} (hm : m ≤ n) : Slc w e size (.slice (some ⟨g, o, none⟩) m cap) m (xs.take (m * size)) := by
  rcases h.2 with ⟨h0, _⟩ | ⟨g', o', cap', cur, h0, h1, h2, h3, h4, h5⟩
  · cases h0
  · cases h0
    refine ⟨?_, .inr ⟨g, o, cap, cur, rfl, h1, by omega, h3, h4, ?_⟩⟩
    · rw [List.length_take, h.1]; exact Nat.min_eq_left (Nat.mul_le_mul_right _ hm)
    · rw [← h5, List.take_take, Nat.min_eq_left (Nat.mul_le_mul_right _ hm)]
theorem flatTake3 {α : Type} {f : α → List Value} {m : Nat} (hf : ∀ a, (f a).length = m) (l r : List α) : ((l ++ r).flatMap f).take (l.length * m) = l.flatMap f := by
  rw [List.flatMap_append, ← flatLen3 hf l, List.take_left]
theorem vC_len (v : V) : (vC v).length = 3 := rfl

theorem Slc.max {w : World} {e : TypeId} {size : Nat} {v : Value} {n : Nat} {xs : List Value} (h : Slc w e size v n xs) : n ≤ maxLen := by
  rcases h.2 with ⟨_, rfl⟩ | ⟨g, o, cap, cur, rfl, _, h1, h2, _⟩
  · exact Nat.zero_le _
  · omega
theorem al {w : World} {a : Addr} {v : Value} (h : w.cell? a = some v) (z : Obj) : (w.alloc z).cell? a = some v := by
  rw [World.cell?_alloc_lt _ _ _ (World.block_lt_of_cell? w _ h)]; exact h
theorem afz {w : World} {b j : Nat} (h : w.frozen? ⟨b, j, none⟩ = false) (hb : b < w.heap.size) (z : Obj) : (w.alloc z).frozen? ⟨b, j, none⟩ = false := by
  rw [← h]
  exact World.frozen?_of_block (w := w) (Below.heap_alloc w z b hb)
theorem cell_ne {b q : Nat} (h : q ≠ b) (W : World) (v : Value) (j i : Nat) : (W.setCell ⟨b, j, none⟩ v).cell? ⟨q, i, none⟩ = W.cell? ⟨q, i, none⟩ := World.cell?_of_block (w := W) (Below.heap_setCell W _ v q h)
theorem rset {w : World} {b k : Nat} {cs : Array Value} {u : Value} {t : TypeId} (h : w.heap[b]? = some (.cells cs t (0, 0))) : (w.setCell ⟨b, k, none⟩ u).heap[b]? = some (.cells (cs.setIfInBounds k u) t (0, 0)) := by
  have hlt := (Array.getElem?_eq_some_iff.1 h).1
  have h' : w.heap[b] = .cells cs t (0, 0) := (Array.getElem?_eq_some_iff.1 h).2
  show (w.heap.modify b _)[b]? = _
  rw [Array.getElem?_eq_getElem (by simpa using hlt), Array.getElem_modify_self, h']
  rfl
theorem rnew (w : World) (cs : Array Value) (t : TypeId) : (w.alloc (.cells cs t)).heap[w.heap.size]? = some (.cells cs t (0, 0)) := heap_alloc_new w _
theorem rold {w : World} {q : Nat} {ob : Obj} (h : w.heap[q]? = some ob) (z : Obj) : (w.alloc z).heap[q]? = some ob := by
  rw [Below.heap_alloc _ _ _ ((Array.getElem?_eq_some_iff.1 h).1)]; exact h
theorem rne {w : World} {q b j : Nat} {ob : Obj} {v : Value} (h : w.heap[q]? = some ob) (hne : q ≠ b) : (w.setCell ⟨b, j, none⟩ v).heap[q]? = some ob := by
  rw [Below.heap_setCell _ _ _ _ hne]; exact h
theorem rdrew {w : World} {q : Nat} {ob : Obj} (h : w.heap[q]? = some ob) : w.drew.heap[q]? = some ob := h
theorem info52 : (Tryz.prog.info? 52).map (·.size) = some 3 := by kernel_rfl
set_option maxRecDepth 100000 in
theorem load52 {W : World} {q : Nat} {cs : Array Value} {t : TypeId} (h : W.heap[q]? = some (.cells cs t (0, 0))) (hs : cs.size = 3) : (loadVar 52 ⟨q, 0, none⟩).run Tryz.prog W = .ok (.agg cs) W :=
  run_loadVar_row _ _ t 52 cs (0, 0) _ h Tryz.underlying52 rfl (by rw [hs]; exact info52)
section
variable {own : Nat → Nat} {C : Nat → Prop} {b lo hi : Nat} {w W : World}
theorem Chg.al (h : Chg own C b lo hi w W) (hb : b < w.heap.size) (z : Obj) : Chg own C b lo hi w (W.alloc z) :=
  h.trans (own' := own) (Chg.below (bl1 W z) (Nat.lt_of_lt_of_le hb h.size)) (fun _ _ => rfl)
theorem Chg.drew (h : Chg own C b lo hi w W) : Chg own C b lo hi w W.drew := ⟨h.os, h.tape, h.output, h.size, h.blk, h.row⟩
theorem Chg.fresh (h : Chg own C b lo hi w W) {q i : Nat} (hq : w.heap.size ≤ q) (hb : b < w.heap.size) (v : Value) : Chg own C b lo hi w (W.setCell ⟨q, i, none⟩ v) :=
  ⟨h.os, h.tape, h.output, by simp [World.setCell]; exact h.size, fun k hk hkb hc => by rw [Below.heap_setCell _ _ _ _ (by show k ≠ q; omega)]; exact h.blk k hk hkb hc, fun cs t hc => by
    obtain ⟨c1, a1, a2, a3⟩ := h.row cs t hc
    exact ⟨c1, by rw [Below.heap_setCell _ _ _ _ (by show b ≠ q; omega)]; exact a1, a2, a3⟩⟩
theorem Chg.put (h : Chg own C b lo hi w W) {j : Nat} (h1 : lo ≤ j) (h2 : j < hi) (v : Value) : Chg own C b lo hi w (W.setCell ⟨b, j, none⟩ v) :=
  ⟨h.os, h.tape, h.output, by simp [World.setCell]; exact h.size, fun k hk hkb hc => by rw [Below.heap_setCell _ _ _ _ hkb]; exact h.blk k hk hkb hc, fun cs t hc => by
    obtain ⟨c1, a1, a2, a3⟩ := h.row cs t hc
    exact ⟨_, rset a1, by rw [Array.size_setIfInBounds, a2], fun i hi => by rw [Array.getElem?_setIfInBounds_ne (by omega)]; exact a3 i hi⟩⟩
end
theorem vs_last {w : World} {own : Nat → Nat} {b o cv : Nat} {l : List V} {y : V} (h : VS w own b o cv (l ++ [y])) : ∃ g p cap, w.cell? ⟨b, o + 5, none⟩ = some (.slice (some ⟨g, p, none⟩) (l.length + 1) cap) ∧ l.length + 1 ≤ cap ∧ l.length + 1 ≤ maxLen ∧
    w.cell? ⟨g, p + l.length * 3, none⟩ = some (.int .i64 y.k) ∧ w.cell? ⟨g, p + l.length * 3 + 1, none⟩ = some (.int .i64 y.n) ∧ w.cell? ⟨g, p + l.length * 3 + 2, none⟩ = some (.string y.s) := by
  obtain ⟨v, hv, hs⟩ := h
  obtain ⟨g, p, cap, rfl, hcap⟩ := hs.sl.at (by simp)
  have c0 := hs.sl.cell _ _ (flat3_get vC_len (l ++ [y]) l.length y 0 _ (by simp) rfl)
  have c1 := hs.sl.cell _ _ (flat3_get vC_len (l ++ [y]) l.length y 1 _ (by simp) rfl)
  have c2 := hs.sl.cell _ _ (flat3_get vC_len (l ++ [y]) l.length y 2 _ (by simp) rfl)
  have e : (l ++ [y]).length = l.length + 1 := by simp
  have hm := hs.sl.max
  rw [e] at hv hcap hm
  exact ⟨g, p, cap, hv, hcap, hm, c0, by rw [Nat.add_assoc]; exact c1, by rw [Nat.add_assoc]; exact c2⟩
theorem vs_cut {w w' : World} {own : Nat → Nat} {C : Nat → Prop} {b o cv lo hi g p cap : Nat} {l : List V} {y : V} (hB : Blk w b o) (h : VS w own b o cv (l ++ [y])) (hv : w.cell? ⟨b, o + 5, none⟩ = some (.slice (some ⟨g, p, none⟩) (l.length + 1) cap))
    (hch : Chg own C b lo hi w w') (hn : w'.cell? ⟨b, o + 5, none⟩ = some (.slice (some ⟨g, p, none⟩) l.length cap)) (hC : ¬ C cv := by intro h; exact h) : VS w' own b o cv l := by
  obtain ⟨v, hv', hs⟩ := h
  rw [hv] at hv'
  cases hv'
  refine ⟨_, hn, SlC.chg (C := C) (lo := lo) (hi := hi) (w := w) ⟨?_, fun k hk => hs.col k hk⟩ hch hC⟩
  have hsl := hs.sl
  have e : (l ++ [y]).length = l.length + 1 := by simp
  rw [e] at hsl
  have := hsl.cut (m := l.length) (by omega)
  rw [flatTake3 vC_len] at this
  exact this
set_option maxHeartbeats 1000000 in
theorem top_w (w : World) (own : Nat → Nat) (b o cv : Nat) (l : List V) (y : V) (hV : Hid (VS w own b o cv (l ++ [y]))) :
    Calls Tryz.prog 206 #[.pointer (some ⟨b, o, none⟩)] w fun e w' => e = .returned (vV y) ∧ Below w.heap.size w w' := by
  obtain ⟨g, p, cap, hv, hcap, hm, c0, c1, c2⟩ := vs_last hV.out
  unfold maxLen at hm
  have h1 : 0 ≤ (l.length : Int) := by omega
  have h2 : (l.length : Int) < (l.length : Int) + 1 := by omega
  have hw1 : wrap64 ((l.length : Int) + 1 - 1) = l.length := by unfold wrap64; omega
  have hw2 : IntKind.i64.wrap ((l.length : Int) + 1 - 1) = l.length := by rw [IntKind.wrap_i64]; omega
  have hsub : (l.length : Int) + 1 - 1 = l.length := by omega
  have hw3 : IntKind.i64.wrap (l.length : Int) = l.length := by rw [IntKind.wrap_i64]; omega
  have hv' := fun z => al hv z
  have c0' := fun z => al c0 z
  have c1' := fun z => al c1 z
  have c2' := fun z => al c2 z
  clear hv c0 c1 c2
  unfold vV
  go_enter Tryz.func206, Tryz.ntmps206
  go_wp2_with fail
  go_region
  all_goals
    go_wp2_with fail
    go_returns
    exact ⟨rfl, (bl1 _ _).drew⟩
set_option maxHeartbeats 2000000 in
theorem take_w (w : World) (own : Nat → Nat) (b o cv : Nat) (l : List V) (y : V) (hB : Hid (Blk w b o)) (hV : Hid (VS w own b o cv (l ++ [y]))) :
    Calls Tryz.prog 223 #[.pointer (some ⟨b, o, none⟩)] w fun e w' => e = .returned (vV y) ∧ Hid (VS w' own b o cv l) ∧ Hid (Chg own (fun _ => False) b (o + 5) (o + 6) w w') := by
  obtain ⟨g, p, cap, hv, hcap, hm, c0, c1, c2⟩ := vs_last hV.out
  unfold maxLen at hm
  have h1 : 0 ≤ (l.length : Int) := by omega
  have h2 : (l.length : Int) < (l.length : Int) + 1 := by omega
  have hw1 : wrap64 ((l.length : Int) + 1 - 1) = l.length := by unfold wrap64; omega
  have hw2 : IntKind.i64.wrap ((l.length : Int) + 1 - 1) = l.length := by rw [IntKind.wrap_i64]; omega
  have hsub : (l.length : Int) + 1 - 1 = l.length := by omega
  have hw3 : IntKind.i64.wrap (l.length : Int) = l.length := by rw [IntKind.wrap_i64]; omega
  have hb := hB.out.lt
  have n1 : b ≠ w.heap.size := by omega
  have n2 : w.heap.size ≠ b := by omega
  have n3 : b ≠ w.heap.size + 1 := by omega
  have n4 : w.heap.size + 1 ≠ b := by omega
  have m1 := cell_ne n2
  have m2 := cell_ne n4
  have hfz := fun z1 z2 z3 => afz (afz (afz (hB.out.frozen (o + 5)) hb z1) (by simp; omega) z2) (by simp; omega) z3
  have hcap2 : l.length ≤ cap := by omega
  have hv' := fun z => al hv z
  have hv'' := fun z1 z2 => al (al hv z1) z2
  have hv3 := fun z1 z2 z3 => al (al (al hv z1) z2) z3
  have c0' := fun z1 z2 => al (al c0 z1) z2
  have c1' := fun z1 z2 => al (al c1 z1) z2
  have c2' := fun z1 z2 => al (al c2 z1) z2
  have c03 := fun z1 z2 z3 => al (al (al c0 z1) z2) z3
  have c13 := fun z1 z2 z3 => al (al (al c1 z1) z2) z3
  have c23 := fun z1 z2 z3 => al (al (al c2 z1) z2) z3
  clear c0 c1 c2
  unfold vV
  go_enter Tryz.func223, Tryz.ntmps223
  have HN : Hid (b < w.heap.size) := hb
  go_wp2
  go_region
  all_goals
    go_wp2
    go_region
  all_goals
    go_wp2
    refine bodyPost_ret (results_cell1 rfl _ _ _ ⟨w.heap.size, 0, none⟩ _ _ rfl (load52 (rdrew (rdrew (rset (rset (rset (rne (rold (rold (rnew _ _ _) _) _) n2)))))) rfl)) rfl ?_
    have hch : Chg own (fun _ => False) b (o + 5) (o + 6) w (((((((w.alloc (Obj.cells #[Value.int IntKind.i64 0, Value.int IntKind.i64 0, Value.string { data := #[] }] 52)).alloc (Obj.cells #[Value.int IntKind.i64 y.k, Value.int IntKind.i64 y.n, Value.string y.s] 52)).alloc (Obj.cells #[Value.int IntKind.i64 y.k, Value.int IntKind.i64 y.n, Value.string y.s] 52)).setCell ⟨b, o + 5, none⟩ (.slice (some ⟨g, p, none⟩) l.length cap)).setCell ⟨w.heap.size, 0, none⟩ (.int .i64 y.k)).setCell ⟨w.heap.size, 1, none⟩ (.int .i64 y.n)).setCell ⟨w.heap.size, 2, none⟩ (.string y.s)).drew.drew :=
      ((((((((((Chg.refl own (fun _ => False) b (o + 5) (o + 6) w).al hb _).al hb _).al hb _).put (by omega) (by omega) _).fresh (Nat.le_refl _) hb _).fresh (Nat.le_refl _) hb _).fresh (Nat.le_refl _) hb _).drew).drew)
    exact ⟨rfl, vs_cut hB.out hV.out hv hch (by
      obtain ⟨cs, t, k1, k2⟩ := hB.out
      rw [cell_of_row _ b (o + 5) _ t (0, 0) (rdrew (rdrew (rne (rne (rne (rset (rold (rold (rold k1 _) _) _)) n1) n1) n1)))]
      rw [Array.getElem?_setIfInBounds_self_of_lt (by omega)]), hch⟩
end Go.Proofs.YtiocnfambeochaaGreatDoor
