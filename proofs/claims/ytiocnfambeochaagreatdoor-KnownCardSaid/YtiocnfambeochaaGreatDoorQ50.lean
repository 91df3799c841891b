/- Texts put together. -/
import Derived.Test.YtiocnfambeochaaGreatDoorQ49
/- Plain mathematics: what the statement Known's own formulas are worth. -/
set_option linter.unusedVariables false
set_option linter.unusedSimpArgs false
namespace Go.Proofs.YtiocnfambeochaaGreatDoor

def KB : Nat → Nat
  | 0 => 200
  | 1 => 40000
  | 2 => 1600000000
  | _ => 2560000000000000000
theorem KB_sq {d : Nat} (h : d ≤ 2) : KB d * KB d = KB (d + 1) ∧ 200 ≤ KB d ∧ KB d + KB d ≤ KB (d + 1) ∧ KB d + 24 ≤ KB (d + 1) ∧ 200 ≤ KB (d + 1) ∧ KB d ≤ KB (d + 1) := by
  have : d = 0 ∨ d = 1 ∨ d = 2 := by omega
  rcases this with rfl | rfl | rfl <;> decide
theorem KB_max (d : Nat) : KB d ≤ 2560000000000000000 := by
  unfold KB
  split <;> decide
theorem kn_in {n : Int} {d : Nat} (h : n.natAbs ≤ KB d) : vNum n = vI n := by
  have := KB_max d
  unfold vNum
  rw [if_pos (by unfold inR; exact decide_eq_true (by omega))]
theorem c_add (a b : Int) : comb 5 (vI a) (vI b) = vNum (a + b) := by
  unfold comb; rw [if_pos rfl]; unfold vAdd; rw [if_pos (by unfold vI; exact ⟨rfl, rfl⟩)]; rfl
theorem c_sub (a b : Int) : comb 6 (vI a) (vI b) = vNum (a - b) := by
  unfold comb; rw [if_neg (by decide), if_pos rfl]; unfold vSub; rw [if_pos (by unfold vI; exact ⟨rfl, rfl⟩)]; rfl
theorem c_mul (a b : Int) : comb 7 (vI a) (vI b) = vNum (a * b) := by
  unfold comb; rw [if_neg (by decide), if_neg (by decide), if_pos rfl]; unfold vMul; rw [if_pos (by unfold vI; exact ⟨rfl, rfl⟩)]; rfl
theorem c_div (a b : Int) : comb 8 (vI a) (vI b) = if b = 0 then vE 2 else vNum (a.tdiv b) := by
  unfold comb; rw [if_neg (by decide), if_neg (by decide), if_neg (by decide), if_pos rfl]; unfold vDiv; rw [if_pos (by unfold vI; exact ⟨rfl, rfl⟩)]; rfl
theorem c_less (a b : Int) : comb 11 (vI a) (vI b) = vB (decide (a < b)) := by
  unfold comb; rw [if_neg (by decide), if_neg (by decide), if_neg (by decide), if_neg (by decide), if_neg (by decide), if_neg (by decide)]; unfold vLess; rw [if_pos (by unfold vI; exact ⟨rfl, rfl⟩)]; rfl
section
variable {val : Nat → V}
theorem Ev.readN {nd : Nd} {v : V} (h : val nd.c = v) (hk : v.k ≠ 0) (hc : v ≠ cyc) : Ev val (readA nd) v := by
  refine ⟨[⟨nd, v⟩], ⟨rfl, trivial⟩, fun r hr => ?_, rfl⟩
  rw [List.mem_singleton] at hr
  subst hr
  show v = see nd (val nd.c) ∧ val nd.c ≠ cyc
  rw [h]
  refine ⟨?_, hc⟩
  unfold see
  rw [if_neg (fun g => hk g.1)]
theorem vi_k (n : Int) : (vI n).k ≠ 0 := show (1 : Int) ≠ 0 by decide
theorem vi_c (n : Int) : vI n ≠ cyc := by unfold cyc vE vI; simp
theorem vb_k (b : Bool) : (vB b).k ≠ 4 := show (2 : Int) ≠ 4 by decide
theorem small_in {n : Int} (h : -1000 ≤ n ∧ n ≤ 1000) : vNum n = vI n := by
  unfold vNum
  rw [if_pos (by unfold inR; exact decide_eq_true (by omega))]
theorem ev_sum : ∀ (l : List Nat) (acc : Nat), (∀ c ∈ l, val c = vI c) → acc + l.sum ≤ 1000 → Ev val (sumA l (vI acc)) (vI ((acc + l.sum : Nat) : Int))
  | [], acc, _, _ => by show Ev val (retA _) _; exact Ev.ret _
  | c :: l, acc, h, hs => by
    rw [List.sum_cons] at hs ⊢
    refine Ev.bindI (Ev.readN (nd := ⟨c, false⟩) (h c List.mem_cons_self) (vi_k _) (vi_c _)) (i_k _) (Ev.bindI (Ev.ret _) ?_ ?_)
    · show (vAdd (vI acc) (vI c)).k ≠ 4
      have e : vAdd (vI acc) (vI c) = vI ((acc + c : Nat) : Int) := by
        have := c_add acc c
        unfold comb at this; rw [if_pos rfl] at this
        rw [this, small_in (by omega)]; rfl
      rw [e]; exact i_k _
    · have e : vAdd (vI acc) (vI c) = vI ((acc + c : Nat) : Int) := by
        have := c_add acc c
        unfold comb at this; rw [if_pos rfl] at this
        rw [this, small_in (by omega)]; rfl
      show Ev val (sumA l (vAdd (vI acc) (vI c))) _
      rw [e]
      have := ev_sum l (acc + c) (fun c hc => h c (List.mem_cons_of_mem _ hc)) (by omega)
      rw [show acc + (c + l.sum) = acc + c + l.sum by omega]
      exact this
theorem ev_cnt : ∀ (l : List Nat) (acc : Nat), (∀ c ∈ l, val c = vI c) → acc + l.length ≤ 1000 → Ev val (cntA l (vI acc)) (vI ((acc + l.length : Nat) : Int))
  | [], acc, _, _ => by show Ev val (retA _) _; exact Ev.ret _
  | c :: l, acc, h, hs => by
    rw [List.length_cons] at hs ⊢
    have e : (if (vI (c : Int)).k = 1 then vAdd (vI acc) (vI 1) else vI acc) = vI ((acc + 1 : Nat) : Int) := by
      rw [if_pos (show (vI (c : Int)).k = 1 from rfl)]
      have := c_add acc 1
      unfold comb at this; rw [if_pos rfl] at this
      rw [this, small_in (by omega)]; rfl
    refine Ev.bindI (Ev.readN (nd := ⟨c, true⟩) (h c List.mem_cons_self) (vi_k _) (vi_c _)) (i_k _) (Ev.bindI (Ev.ret _) ?_ ?_)
    · show (if (vI (c : Int)).k = 1 then vAdd (vI acc) (vI 1) else vI acc).k ≠ 4
      rw [e]; exact i_k _
    · show Ev val (cntA l (if (vI (c : Int)).k = 1 then vAdd (vI acc) (vI 1) else vI acc)) _
      rw [e]
      have := ev_cnt l (acc + 1) (fun c hc => h c (List.mem_cons_of_mem _ hc)) (by omega)
      rw [show acc + (l.length + 1) = acc + 1 + l.length by omega]
      exact this
theorem ev_at {n : Nat} (h : n < 12) (hv : val n = vI n) : Ev val (atA (retA (vT ⟨(nmT n).toArray⟩))) (vI n) := by
  refine Ev.bindI (Ev.ret _) (show (3 : Int) ≠ 4 by decide) ?_
  have e : atV (vT ⟨(nmT n).toArray⟩) = readA ⟨n, false⟩ := by
    unfold atV
    rw [if_neg (show ¬ ((vT ⟨(nmT n).toArray⟩).k ≠ 3) from fun h => h rfl)]
    have hc : cellN (vT ⟨(nmT n).toArray⟩).s.data.toList = some n := cellN_name (n := n) (by omega)
    rw [hc]
  rw [e]
  exact Ev.readN (nd := ⟨n, false⟩) hv (vi_k _) (vi_c _)
theorem ev_if {d e f : Beh} {b : Bool} {v : V} (hd : Ev val d (vB b)) (h : Ev val (if b = true then e else f) v) : Ev val (ifA d e f) v := by
  refine Ev.bindI hd (vb_k b) ?_
  have e1 : (if (vB b).k ≠ 2 then retA (vE 4) else if (vB b).n = 0 then f else e) = (if b = true then e else f) := by
    rw [if_neg (show ¬ ((vB b).k ≠ 2) from fun h => h rfl)]
    cases b <;> rfl
  show Ev val (if (vB b).k ≠ 2 then retA (vE 4) else if (vB b).n = 0 then f else e) v
  rw [e1]; exact h
theorem ev_bad {d : Beh} {v : V} (h : Ev val d v) : Ev val (badA' d) (vB (decide (v.k = 4))) := Ev.bind h (Ev.ret _)
theorem kn_ev (hval : ∀ c, c < 12 → val c = vI c) : ∀ (deep : Nat) (fd : List UInt8), deep ≤ 3 → Ev val (knG deep fd).1.d (vI (knG deep fd).1.n) ∧ (knG deep fd).1.n.natAbs ≤ KB deep
  | 0, fd, _ => by
    have hn := nx_lt 12 (by omega) fd
    have hb : ((nx 12 fd).1 : Int).natAbs ≤ KB 0 := by show _ ≤ 200; omega
    unfold knG
    split
    · exact ⟨Ev.ret _, hb⟩
    · split
      · exact ⟨ev_at hn (hval _ hn), hb⟩
      · exact ⟨Ev.read (hval _ hn) (vi_k _) (vi_c _), hb⟩
  | deep + 1, fd, hd => by
    have ia := kn_ev hval deep fd (by omega)
    have ib := fun fd => kn_ev hval deep fd (by omega)
    obtain ⟨k1, k2, k3, k4, k5, k6⟩ := KB_sq (d := deep) (by omega)
    have two : ∀ {a b : Int}, a.natAbs ≤ KB deep → b.natAbs ≤ KB deep → (a + b).natAbs ≤ KB (deep + 1) ∧ (a - b).natAbs ≤ KB (deep + 1) ∧ (a * b).natAbs ≤ KB (deep + 1) := fun {a b} ha hb => by
      refine ⟨by omega, by omega, ?_⟩
      rw [Int.natAbs_mul, ← k1]
      exact Nat.mul_le_mul ha hb
    unfold knG
    dsimp only
    generalize hA : knG deep fd = A at *
    split
    · have b := ib (nx 8 A.2).2
      have h := two ia.2 b.2
      have := Ev.bin (op := 6) ia.1 b.1 (i_k _) (i_k _)
      rw [c_sub, kn_in h.2.1] at this
      exact ⟨this, h.2.1⟩
    · split
      · have b := ib (nx 8 A.2).2
        have h := two ia.2 b.2
        have := Ev.bin (op := 7) ia.1 b.1 (i_k _) (i_k _)
        rw [c_mul, kn_in h.2.2] at this
        exact ⟨this, h.2.2⟩
      · split
        · have hb : (A.1.n.tdiv (1 + (nx 9 (nx 8 A.2).2).1 : Nat)).natAbs ≤ KB (deep + 1) := by
            rw [Int.natAbs_tdiv]
            exact Nat.le_trans (Nat.div_le_self _ _) (Nat.le_trans ia.2 k6)
          have := Ev.bin (op := 8) ia.1 (Ev.ret (vI (1 + (nx 9 (nx 8 A.2).2).1 : Nat))) (i_k _) (i_k _)
          rw [c_div, if_neg (by omega), kn_in hb] at this
          exact ⟨this, hb⟩
        · split
          · have hc := Ev.bin (op := 11) ia.1 (Ev.ret (val := val) (vI (nx 12 (nx 8 A.2).2).1)) (i_k _) (i_k _)
            rw [c_less] at hc
            split
            · rename_i hlt
              refine ⟨ev_if hc ?_, by show (100 : Int).natAbs ≤ _; omega⟩
              rw [if_pos (decide_eq_true hlt)]; exact Ev.ret _
            · rename_i hlt
              refine ⟨ev_if hc ?_, by show (200 : Int).natAbs ≤ _; omega⟩
              rw [if_neg (by rw [decide_eq_false hlt]; decide)]; exact Ev.ret _
          · split
            · have hb : (24 + A.1.n).natAbs ≤ KB (deep + 1) := by omega
              have hs := ev_sum (val := val) (rangeL 0 8) 0 (fun c hc => hval c (by revert c; decide)) (by decide)
              rw [show ((0 + (rangeL 0 8).sum : Nat) : Int) = 24 by decide] at hs
              have := Ev.bin (op := 5) hs ia.1 (i_k _) (i_k _)
              rw [c_add, kn_in hb] at this
              exact ⟨this, hb⟩
            · split
              · have hs := ev_cnt (val := val) (rangeL 1 10) 0 (fun c hc => hval c (by revert c; decide)) (by decide)
                rw [show ((0 + (rangeL 1 10).length : Nat) : Int) = 8 by decide] at hs
                have hbd := ev_bad ia.1
                rw [decide_eq_false (i_k _)] at hbd
                refine ⟨ev_if hbd ?_, by show (8 : Int).natAbs ≤ _; omega⟩
                rw [if_neg (by decide)]; exact hs
              · split
                · have hb : (-A.1.n).natAbs ≤ KB (deep + 1) := by omega
                  refine ⟨?_, hb⟩
                  refine Ev.bindI ia.1 (i_k _) ?_
                  have e : vNeg (vI A.1.n) = vI (-A.1.n) := by
                    have := c_sub 0 A.1.n
                    unfold comb at this
                    rw [if_neg (by decide), if_pos rfl] at this
                    unfold vNeg
                    rw [this, show 0 - A.1.n = -A.1.n by omega, kn_in hb]
                  rw [e]; exact Ev.ret _
                · have b := ib (nx 8 A.2).2
                  have h := two ia.2 b.2
                  have := Ev.bin (op := 5) ia.1 b.1 (i_k _) (i_k _)
                  rw [c_add, kn_in h.1] at this
                  exact ⟨this, h.1⟩
end
end Go.Proofs.YtiocnfambeochaaGreatDoor

/- Plain mathematics: what comes of the statement Known. -/
set_option linter.unusedVariables false
set_option linter.unusedSimpArgs false
namespace Go.Proofs.YtiocnfambeochaaGreatDoor

def knT (c : Nat) : ByteArray := if c = 3 ∨ c = 6 ∨ c = 9 then ⟨(nmT (c - 1) ++ [32, 43, 32, 49]).toArray⟩ else nT c
theorem txt_kn3 {c : Nat} (h : c = 3 ∨ c = 6 ∨ c = 9) : TxtOK (knT c) (binA 5 (rdc (c - 1)) (retA (vI 1))) := by
  unfold knT
  rw [if_pos h]
  rcases h with rfl | rfl | rfl
  · exact txt_of (l := [67, 49, 32, 43, 32, 49]) (g := [tCell 2] ++ tOp 0 :: [tNum [49]]) (by kernel_rfl) (by kernel_rfl) (by kernel_rfl) (by kernel_rfl) (by kernel_rfl) (cg_plus (o := tOp 0) (by decide) (cg_cell (by omega)) (cg_n [49] 1 rfl (by omega)))
  · exact txt_of (l := [70, 49, 32, 43, 32, 49]) (g := [tCell 5] ++ tOp 0 :: [tNum [49]]) (by kernel_rfl) (by kernel_rfl) (by kernel_rfl) (by kernel_rfl) (by kernel_rfl) (cg_plus (o := tOp 0) (by decide) (cg_cell (by omega)) (cg_n [49] 1 rfl (by omega)))
  · exact txt_of (l := [67, 50, 32, 43, 32, 49]) (g := [tCell 8] ++ tOp 0 :: [tNum [49]]) (by kernel_rfl) (by kernel_rfl) (by kernel_rfl) (by kernel_rfl) (by kernel_rfl) (cg_plus (o := tOp 0) (by decide) (cg_cell (by omega)) (cg_n [49] 1 rfl (by omega)))
theorem txt_kn0 {c : Nat} (h12 : c < 12) (h : ¬ (c = 3 ∨ c = 6 ∨ c = 9)) : TxtOK (knT c) (retA (vI c)) := by
  unfold knT
  rw [if_neg h]
  exact txt_num (by omega)
def kn0 (m : Nat) : Nat → ByteArray := fun c => if m ≤ c ∧ c < 12 then knT c else eB
theorem kn_start : fs0 = kn0 12 := by
  funext c
  unfold kn0
  rw [if_neg (by omega)]; rfl
theorem kn_next {m : Nat} (h : m < 12) : updF (kn0 (m + 1)) m (knT m) = kn0 m := by
  funext c
  unfold updF kn0
  by_cases e : c = m
  · rw [if_pos e, if_pos ⟨by omega, by omega⟩, e]
  · rw [if_neg e]
    have e : (m + 1 ≤ c ∧ c < 12) = (m ≤ c ∧ c < 12) := propext ⟨fun hh => ⟨by omega, hh.2⟩, fun hh => ⟨by omega, hh.2⟩⟩
    simp only [e]
theorem kn_at {c : Nat} (h : c < 12) : kn0 0 c = knT c := by
  unfold kn0
  rw [if_pos ⟨Nat.zero_le _, h⟩]
section
variable {E : Env} {fs : Nat → ByteArray} {val : Nat → V}
theorem kn_vals (hE : EnvOK E) (h : ∀ c, c < 12 → fs c = knT c) (hv : ∀ c, Val E.D fs c (val c)) : ∀ c, c < 12 → val c = vI c := by
  have base : ∀ c, c < 12 → ¬ (c = 3 ∨ c = 6 ∨ c = 9) → val c = vI c := fun c hc hn => by
    refine (val_of hv (c := c) (by rw [h c hc]; exact (txt_kn0 hc hn).ne) (rs := []) trivial (Hold.nil _) ?_).1
    rw [h c hc, (txt_kn0 hc hn).D hE]; rfl
  intro c hc
  by_cases h3 : c = 3 ∨ c = 6 ∨ c = 9
  · have hp : val (c - 1) = vI ((c - 1 : Nat) : Int) := base (c - 1) (by omega) (by omega)
    refine Ev.worth hv (by rw [h c hc]; exact (txt_kn3 h3).ne) ?_
    rw [h c hc, (txt_kn3 h3).D hE]
    have := Ev.bin (op := 5) (Ev.read (val := val) hp (vi_k _) (vi_c _)) (Ev.ret (vI 1)) (i_k _) (i_k _)
    rw [c_add, small_in (by omega), show ((c - 1 : Nat) : Int) + 1 = (c : Int) by omega] at this
    exact Ev.bind this (Ev.ret _)
  · exact base c hc h3
end
theorem to_a8 : TO (unm (tCell 42)).k (tCell 42).x := show TO (wrdI [65, 56]) [65, 56] from to_word 65 [56] (by decide) (by decide) (by decide) (by decide)
theorem to_b8 : TO (unm (tCell 43)).k (tCell 43).x := show TO (wrdI [66, 56]) [66, 56] from to_word 66 [56] (by decide) (by decide) (by decide) (by decide)
theorem kg_a8 : KG 0 [tCell 42] (rdc 42) := kg_cell (by omega) to_a8 (by decide)
theorem kg_b8 : KG 0 [tCell 43] (rdc 43) := kg_cell (by omega) to_b8 (by decide)
section
variable {n : Nat} {g : List Tk} {d : Beh}
theorem txt_kg (h : KG n g d) (hn : n ≤ 8) (hl : (rnd g).length ≤ 120) : TxtOK ⟨(rnd g).toArray⟩ d := txt_gen h.fg hn (fun t ht => okT_tok (h.tok t ht)) (map_np h.tok) hl h.z
theorem dec0 : Lib.decDigits 0 = [48] := by rw [Lib.decDigits, dif_pos (by omega)]; rfl
theorem txt_kB (h : KG n g d) (hn : n ≤ 8) (hl : (rnd g).length ≤ 90) : TxtOK ⟨([65, 56, 32, 47, 32, 48, 32, 43, 32] ++ rnd g).toArray⟩ (binA 5 (binA 8 (rdc 42) (retA (vI (0 : Nat)))) d) := by
  have h0 := (kg_num (u := 0) (by omega)).more (Nat.zero_le n)
  have ha := kg_a8.more (Nat.zero_le n)
  obtain ⟨f1, f2, f3⟩ := kg_mul (j := 3) (by decide) ha h0
  have hf : FG n (([tCell 42] ++ tOp 3 :: dn' 0) ++ tOp 0 :: g) := ⟨is_form (is_add (is_mul ha.is (is_prod h0.is) (by decide)) (is_sum (is_prod h.is)) (by decide)), two_good f1 h.fg (to_op 0) (by decide) (by decide), two_ck f1 h.fg (by decide) (by decide), by simp, (show (5 : Int) ≠ 15 by decide)⟩
  have hc : CG 0 (([tCell 42] ++ tOp 3 :: dn' 0) ++ tOp 0 :: g) (binA 5 (binA 8 (rdc 42) (retA (vI (0 : Nat)))) d) := cg_lift (by omega) (cg_two (lv := 1) (o := tOp 0) (by omega) (by decide) (cg_two (lv := 2) (o := tOp 3) (by omega) (by decide) ha.cg h0.cg) (cg_up2 h.cg))
  have e : (([tCell 42] ++ tOp 3 :: dn' 0) ++ tOp 0 :: g).flatMap ptk = [65, 56, 32, 47, 32, 48, 32, 43, 32] ++ rnd g := by
    unfold dn'
    rw [dec0]
    rfl
  have := txt_gen hf hn (fun t ht => okT_tok (ok_app f3 (ok_cons (ok_op 0) h.tok) t ht)) (map_np (ok_app f3 (ok_cons (ok_op 0) h.tok))) (by rw [e, List.length_append]; show 9 + (rnd g).length ≤ 120; omega) hc
  rw [e] at this
  exact this
theorem txt_kC (h : KG n g d) (hn : n ≤ 7) (hl : (rnd g).length ≤ 90) : TxtOK ⟨([98, 97, 100, 40, 66, 56, 32, 38, 32] ++ rnd g ++ [41]).toArray⟩ (badA' (binA 9 (rdc 43) d)) := by
  obtain ⟨f1, f2, f3⟩ := kg_add (j := 4) (by decide) (kg_b8.more (Nat.zero_le n)) h
  have hk := (kg_call f1 f3 f2).2
  have e : rnd (tBad :: tOpen :: (([tCell 43] ++ tOp 4 :: g) ++ [tClose])) = [98, 97, 100, 40, 66, 56, 32, 38, 32] ++ rnd g ++ [41] := by
    unfold rnd
    simp only [List.flatMap_cons, List.flatMap_append, List.flatMap_nil, List.append_nil, List.cons_append, List.nil_append, List.append_assoc]
    rfl
  have := txt_kg hk (by omega) (by rw [e, List.length_append, List.length_append]; show 9 + (rnd g).length + 1 ≤ 120; omega)
  rw [e] at this
  exact this
end
def tkD : ByteArray := ⟨#[65, 56, 32, 42, 32, 57, 50, 50, 51, 51, 55, 50, 48, 51, 54, 56, 53, 52, 55, 55, 53, 56, 48, 55, 32, 42, 32, 51]⟩
theorem txt_kD : TxtOK tkD (binA 7 (binA 7 (rdc 42) (retA (vI (9223372036854775807 : Nat)))) (retA (vI (3 : Nat)))) :=
  txt_of (l := [65, 56, 32, 42, 32, 57, 50, 50, 51, 51, 55, 50, 48, 51, 54, 56, 53, 52, 55, 55, 53, 56, 48, 55, 32, 42, 32, 51]) (g := [tCell 42] ++ tOp 2 :: ([tNum [57, 50, 50, 51, 51, 55, 50, 48, 51, 54, 56, 53, 52, 55, 55, 53, 56, 48, 55]] ++ tOp 2 :: [tNum [51]])) (by kernel_rfl) (by kernel_rfl) (by kernel_rfl) (by kernel_rfl) (by kernel_rfl)
    (cg_lift (by omega) (cg_lift (by omega) (cg_three (lv := 2) (o := tOp 2) (p := tOp 2) (by omega) (by decide) (by decide) (cg_cell (by omega)) (cg_n [57, 50, 50, 51, 51, 55, 50, 48, 51, 54, 56, 53, 52, 55, 55, 53, 56, 48, 55] 9223372036854775807 rfl (by omega)) (cg_n [51] 3 rfl (by omega)))))
theorem edge_in {n : Int} (h : -9223372036854775807 ≤ n ∧ n ≤ 9223372036854775807) : vNum n = vI n := by
  unfold vNum
  rw [if_pos (by unfold inR; exact decide_eq_true (by omega))]
theorem out_in {n : Int} (h : n < -9223372036854775808 ∨ 9223372036854775807 < n) : vNum n = vE 1 := by
  unfold vNum
  rw [if_neg (by unfold inR; simp only [decide_eq_true_eq]; omega)]
section
variable {E : Env} {fs : Nat → ByteArray} {val : Nat → V}
theorem kn_worth (hE : EnvOK E) (h : ∀ c, c < 12 → fs c = knT c) (hv : ∀ c, Val E.D fs c (val c)) {deep : Nat} {fd : List UInt8} (hd : deep ≤ 3) {tA tB tC : ByteArray} (h42 : fs 42 = tA) (h43 : fs 43 = tB) (h44 : fs 44 = tC) (h45 : fs 45 = tkD)
    (xA : TxtOK tA (knG deep fd).1.d) (xB : TxtOK tB (binA 5 (binA 8 (rdc 42) (retA (vI (0 : Nat)))) (knG deep fd).1.d)) (xC : TxtOK tC (badA' (binA 9 (rdc 43) (knG deep fd).1.d))) :
    val 42 = vI (knG deep fd).1.n ∧ val 43 = vE 2 ∧ val 44 = vB true ∧ val 45 = if (knG deep fd).1.n = 0 then vI 0 else vE 1 := by
  have h12 := kn_vals hE h hv
  obtain ⟨e1, hb⟩ := kn_ev h12 deep fd hd
  have a42 : val 42 = vI (knG deep fd).1.n := Ev.worth hv (by rw [h42]; exact xA.ne) (by rw [h42, xA.D hE]; exact Ev.bind e1 (Ev.ret _))
  have r42 := Ev.read (val := val) a42 (vi_k _) (vi_c _)
  have a43 : val 43 = vE 2 := by
    refine Ev.worth hv (by rw [h43]; exact xB.ne) ?_
    rw [h43, xB.D hE]
    have h1 := Ev.bin (op := 8) r42 (Ev.ret (vI (0 : Nat))) (i_k _) (i_k _)
    rw [c_div, if_pos (show ((0 : Nat) : Int) = 0 from rfl)] at h1
    exact Ev.bind (Ev.binX h1 rfl) (Ev.ret _)
  have r43 := Ev.read (val := val) a43 (show (4 : Int) ≠ 0 by decide) (by unfold cyc vE; simp)
  refine ⟨a42, a43, ?_, ?_⟩
  · refine Ev.worth hv (by rw [h44]; exact xC.ne) ?_
    rw [h44, xC.D hE]
    have h1 := ev_bad (Ev.binX (op := 9) (e := (knG deep fd).1.d) r43 rfl)
    exact Ev.bind h1 (Ev.ret _)
  · generalize (knG deep fd).1.n = N at *
    have hm := KB_max deep
    refine Ev.worth hv (by rw [h45]; exact txt_kD.ne) ?_
    rw [h45, txt_kD.D hE]
    have h1 := Ev.bin (op := 7) r42 (Ev.ret (vI (9223372036854775807 : Nat))) (i_k _) (i_k _)
    rw [c_mul] at h1
    refine Ev.bind (v := if N = 0 then vI 0 else vE 1) ?_ (Ev.ret _)
    by_cases h0 : N = 0
    · rw [if_pos h0]
      rw [h0, show (0 : Int) * ((9223372036854775807 : Nat) : Int) = 0 by decide, small_in (by omega)] at h1
      have h2 := Ev.bin (op := 7) h1 (Ev.ret (vI (3 : Nat))) (i_k _) (i_k _)
      rw [c_mul, show (0 : Int) * ((3 : Nat) : Int) = 0 by decide, small_in (by omega)] at h2
      exact h2
    · rw [if_neg h0]
      by_cases h1' : N = 1
      · rw [h1', show (1 : Int) * ((9223372036854775807 : Nat) : Int) = 9223372036854775807 by decide, edge_in (by decide)] at h1
        have h2 := Ev.bin (op := 7) h1 (Ev.ret (vI (3 : Nat))) (i_k _) (i_k _)
        rw [c_mul, out_in (by omega)] at h2
        exact h2
      · by_cases h2' : N = -1
        · rw [h2', show (-1 : Int) * ((9223372036854775807 : Nat) : Int) = -9223372036854775807 by decide, edge_in (by decide)] at h1
          have h2 := Ev.bin (op := 7) h1 (Ev.ret (vI (3 : Nat))) (i_k _) (i_k _)
          rw [c_mul, out_in (by omega)] at h2
          exact h2
        · rw [out_in (by omega)] at h1
          exact Ev.binX h1 rfl
end
end Go.Proofs.YtiocnfambeochaaGreatDoor

/- Names of the first column, small numbers; calls on a sheet whose answer is known. -/
set_option linter.unusedVariables false
set_option linter.unusedSimpArgs false
namespace Go.Proofs.YtiocnfambeochaaGreatDoor
open Go.RowKit

section
variable {E : Env} {w0 w w' : World} {x : Nat} {fl fs : Nat → ByteArray} {k k' : Kp}
theorem val_v (h : Hid (ShS E w0 w x fl fs k)) {cl : ByteArray} {c : Nat} (hc : Hid (cellN cl.data.toList = some c)) (a b : Int) (hv : (k.last c).v = ⟨a, b, eB⟩) :
    Calls Tryz.prog 29 #[.pointer (some ⟨x, 0, none⟩), .string cl] w fun e w' => e = .returned (.tuple #[.agg #[.int .i64 a, .int .i64 b, .string ⟨#[]⟩], .int .i64 0]) ∧ Hid (ShS E w0 w' x fl fs k ∧ Below w.heap.size w w') := by
  refine (value_some w x h.out.sr cl c hc).mono ?_
  rintro e w' ⟨rfl, hb⟩
  rw [hv]
  exact ⟨rfl, h.out.below hb, hb⟩
end
end Go.Proofs.YtiocnfambeochaaGreatDoor

/- Work over a sheet's state; small numbers. -/
set_option linter.unusedVariables false
set_option linter.unusedSimpArgs false
namespace Go.Proofs.YtiocnfambeochaaGreatDoor
open Go.RowKit

section
variable {E : Env} {w0 w w' : World} {x : Nat} {fl fs : Nat → ByteArray} {k k' : Kp}
theorem Slc.bel {v : Value} {e s n : Nat} {l : List Value} (h : Slc w e s v n l) (hb : Below w.heap.size w w') : Slc w' e s v n l := h.kept fun g hg => hb.block g (h.lt g hg)
end
end Go.Proofs.YtiocnfambeochaaGreatDoor

/- The statement's own 'batch', walked. -/
set_option linter.unusedVariables false
set_option linter.unusedSimpArgs false
namespace Go.Proofs.YtiocnfambeochaaGreatDoor
open Go.RowKit

theorem gb_new {a b c : World} {fb : Nat} {row : Option Nat} (h : a.grownBy b (some fb)) (hg : b.grownBy c row) (hrow : ∀ g, row = some g → a.heap.size ≤ g) : a.grownBy c (some fb) :=
  ⟨hg.os.trans h.os, hg.tape.trans h.tape, hg.output.trans h.output, Nat.le_trans h.size hg.size, fun i hi hr => (hg.block i (Nat.lt_of_lt_of_le hi h.size) (fun e => absurd (hrow i e.symm) (Nat.not_le_of_lt hi))).trans (h.block i hi hr)⟩
theorem FD.kept {w w' : World} {B fb : Nat} {fd : List UInt8} (h : FD w B fb fd) (e : w'.heap[fb]? = w.heap[fb]?) : FD w' B fb fd := by
  obtain ⟨raw, at_, h1, h2⟩ := h.blk
  exact ⟨⟨raw, at_, by rw [e]; exact h1, h2⟩, h.low⟩
theorem FD.grown {w w' : World} {B fb : Nat} {fd : List UInt8} {row : Option Nat} (h : FD w B fb fd) (hg : w.grownBy w' row) (hrow : row ≠ some fb) : FD w' B fb fd := h.kept (hg.block fb h.lt (fun e => hrow e.symm))
theorem two_cells {w : World} {b : Nat} {x y : Value} {t : TypeId} (h : w.heap[b]? = some (.cells #[x, y] t (0, 0))) : w.cell? ⟨b, 0, none⟩ = some x ∧ w.cell? ⟨b, 1, none⟩ = some y ∧ w.frozen? ⟨b, 0, none⟩ = false ∧ w.frozen? ⟨b, 1, none⟩ = false :=
  ⟨by simp [World.cell?, h], by simp [World.cell?, h], by simp [World.frozen?, h], by simp [World.frozen?, h]⟩
structure BtS (w0 w : World) (fb : Nat) (fd : List UInt8) (wr : World) (v : Value) (m : Nat) (es : List (ByteArray × ByteArray)) (f : List UInt8) : Prop where
  mB : m ≤ 4
  nB : es.length ≤ 4
  eB' : es ++ bL m f = bB fd
  sB : Slc wr 68 2 v es.length (es.flatMap edC)
  oB : ∀ g, v.ownBlock = some g → w.heap.size ≤ g
  gB : w.grownBy wr (some fb)
  fB : FD wr w0.heap.size fb f
theorem BtS.lt {w0 w : World} {fb : Nat} {fd : List UInt8} {wr : World} {v : Value} {m : Nat} {es : List (ByteArray × ByteArray)} {f : List UInt8} (h : BtS w0 w fb fd wr v m es f) (hf : fb < w.heap.size) {w1 : World} (h1 : wr.grownBy w1 (some fb)) : Slc w1 68 2 v es.length (es.flatMap edC) :=
  h.sB.grown h1 (by
    cases hv : v.ownBlock with
    | none => exact .inl rfl
    | some g => exact .inr (fun e => by cases e; exact absurd (h.oB fb hv) (Nat.not_le_of_lt hf)))
theorem BtS.next {w0 w : World} {fb : Nat} {fd : List UInt8} {wr : World} {v v' : Value} {m : Nat} {es : List (ByteArray × ByteArray)} {f : List UInt8} (h : BtS w0 w fb fd wr v (m + 1) es f) (hf : fb < w.heap.size) {w4 w8 : World} (h4 : wr.grownBy w4 (some fb)) (hF : FD w4 w0.heap.size fb (bE f).2)
    (hs : Slc w8 68 2 v' (es.length + 1) (es.flatMap edC ++ edC (bE f).1)) (hg : w4.grownBy w8 v.ownBlock) (ho : v'.ownBlock = v.ownBlock ∨ ∃ g, v'.ownBlock = some g ∧ w.heap.size ≤ g) : BtS w0 w fb fd w8 v' m (es ++ [(bE f).1]) (bE f).2 := by
  have hrow : ∀ g, v.ownBlock = some g → w.heap.size ≤ g := h.oB
  have hl : (bL (m + 1) f).length = m + 1 := bL_len _ _
  have htot := bB_len fd
  rw [← h.eB', List.length_append, hl] at htot
  refine ⟨by have := h.mB; omega, by rw [List.length_append]; show es.length + 1 ≤ 4; omega, ?_, ?_, ?_, gb_new (gb_trans h.gB h4) hg hrow, hF.grown hg (fun e => absurd (hrow fb e) (Nat.not_le_of_lt hf))⟩
  · rw [← h.eB', List.append_assoc]; rfl
  · rw [List.length_append, List.flatMap_append, List.flatMap_cons, List.flatMap_nil, List.append_nil]; exact hs
  · intro g hv
    rcases ho with e | ⟨g', e, hg'⟩
    · rw [e] at hv; exact hrow g hv
    · rw [e] at hv; cases hv
      exact hg'
end Go.Proofs.YtiocnfambeochaaGreatDoor

/- The statement's own 'known', walked: the ends. -/
set_option linter.unusedVariables false
set_option linter.unusedSimpArgs false
namespace Go.Proofs.YtiocnfambeochaaGreatDoor
open Go.RowKit

theorem info45 : (Tryz.prog.info? 45).map (·.size) = some 2 := by kernel_rfl
theorem load45 {W : World} {q : Nat} {cs : Array Value} {t : TypeId} (h : W.heap[q]? = some (.cells cs t (0, 0))) (hs : cs.size = 2) : (loadVar 45 ⟨q, 0, none⟩).run Tryz.prog W = .ok (.agg cs) W :=
  run_loadVar_row _ _ t 45 cs (0, 0) _ h Tryz.underlying45 rfl (by rw [hs]; exact info45)
def KnW (deep : Nat) : Prop := ∀ (w0 w : World) (fb : Nat) (fd : List UInt8), Amb w0 → Below w0.heap.size w0 w → FD w w0.heap.size fb fd →
  Calls Tryz.prog 25 #[.pointer (some ⟨fb, 0, none⟩), .int .i64 deep] w fun e w' => e = .returned (.agg #[.string ⟨(rnd (knG deep fd).1.g).toArray⟩, .int .i64 (knG deep fd).1.n]) ∧ w.grownBy w' (some fb) ∧ FD w' w0.heap.size fb (knG deep fd).2
structure KnS (w0 w : World) (fb : Nat) (u : World) (b4 : Nat) (f : List UInt8) : Prop where
  gr : w.grownBy u (some fb)
  fd : FD u w0.heap.size fb f
  q : ∃ a b, u.heap[b4]? = some (.cells #[a, b] 45 (0, 0))
  b : w.heap.size ≤ b4
  lt : fb < w.heap.size
section
variable {w0 w u u' : World} {fb b4 : Nat} {f f' : List UInt8}
theorem KnS.start (h : FD w w0.heap.size fb f) : KnS w0 w fb (w.alloc (.cells #[.string ⟨#[]⟩, .int .i64 0] 45)) w.heap.size f :=
  ⟨gb_al _ (gb_refl _ _), h.below (bl1 _ _), ⟨_, _, rnew _ _ _⟩, Nat.le_refl _, h.lt⟩
theorem KnS.ne (h : KnS w0 w fb u b4 f) : b4 ≠ fb := fun e => by have := h.b; have := h.lt; omega
theorem KnS.next (h : KnS w0 w fb u b4 f) (hg : u.grownBy u' (some fb)) (hf : FD u' w0.heap.size fb f') : KnS w0 w fb u' b4 f' := by
  obtain ⟨a, b, hq⟩ := h.q
  exact ⟨gb_trans h.gr hg, hf, ⟨a, b, by rw [hg.block b4 (Array.getElem?_eq_some_iff.1 hq).1 (fun e => h.ne (by cases e; rfl))]; exact hq⟩, h.b, h.lt⟩
theorem KnS.below (h : KnS w0 w fb u b4 f) (hb : Below u.heap.size u u') : KnS w0 w fb u' b4 f := h.next (gb_below hb) (h.fd.below hb)
theorem KnS.cells (h : KnS w0 w fb u b4 f) : ∃ a b, u.cell? ⟨b4, 0, none⟩ = some a ∧ u.cell? ⟨b4, 1, none⟩ = some b ∧ u.frozen? ⟨b4, 0, none⟩ = false ∧ u.frozen? ⟨b4, 1, none⟩ = false := by
  obtain ⟨a, b, hq⟩ := h.q
  exact ⟨a, b, two_cells hq⟩
theorem KnS.amb (h : KnS w0 w fb u b4 f) (hb : Below w0.heap.size w0 w) (hl : w0.heap.size ≤ fb) : Below w0.heap.size w0 u := below_gb hb h.gr hb.size hl
theorem KnS.done (h : KnS w0 w fb u b4 f) (s n : Value) : (loadVar 45 ⟨b4, 0, none⟩).run Tryz.prog ((u.setCell ⟨b4, 0, none⟩ s).setCell ⟨b4, 1, none⟩ n) = .ok (.agg #[s, n]) ((u.setCell ⟨b4, 0, none⟩ s).setCell ⟨b4, 1, none⟩ n) ∧ w.grownBy ((u.setCell ⟨b4, 0, none⟩ s).setCell ⟨b4, 1, none⟩ n) (some fb) ∧ FD ((u.setCell ⟨b4, 0, none⟩ s).setCell ⟨b4, 1, none⟩ n) w0.heap.size fb f := by
  obtain ⟨a, b, hq⟩ := h.q
  refine ⟨load45 (rset (rset hq)) rfl, ?_, ?_⟩
  · exact gb_new (gb_new h.gr (gb_setCell u b4 0 s) (fun g hg => by cases hg; exact h.b)) (gb_setCell _ b4 1 n) (fun g hg => by cases hg; exact h.b)
  · exact (h.fd.kept (Below.heap_setCell _ _ _ _ h.ne.symm)).kept (Below.heap_setCell _ _ _ _ h.ne.symm)
def KnA (u : World) (b6 : Nat) (s : ByteArray) (n : Int) : Prop := u.heap[b6]? = some (.cells #[.string s, .int .i64 n] 45 (0, 0))
theorem KnA.next {b6 : Nat} {s : ByteArray} {n : Int} (h : KnA u b6 s n) (hg : u.grownBy u' (some fb)) (hne : b6 ≠ fb) : KnA u' b6 s n := by
  unfold KnA
  rw [hg.block b6 (Array.getElem?_eq_some_iff.1 h).1 (fun e => hne (by cases e; rfl))]; exact h
end
theorem rnd_dn {n : Nat} (h : n ≤ 1000) : rnd (dn' n) = Lib.decDigits n := by
  unfold rnd dn'
  show nzT (Lib.decDigits n) ++ [] = _
  rw [(dec_big n (by omega)).2.1, List.append_nil]
set_option maxRecDepth 100000 in
set_option maxHeartbeats 4000000 in
theorem kn_zero : KnW 0 := by
  intro w0 w fb fd hA0 hb0 hF0
  have hA : Hid (Amb w0) := hA0
  have hb : Hid (Below w0.heap.size w0 w) := hb0
  have HL : Hid (w0.heap.size ≤ fb) := hF0.low
  have H0 : Hid (KnS w0 w fb (w.alloc (.cells #[.string ⟨#[]⟩, .int .i64 0] 45)) w.heap.size fd) := KnS.start hF0
  obtain ⟨n, hn⟩ : ∃ n, (nx 12 fd).1 = n := ⟨_, rfl⟩
  obtain ⟨s, hs⟩ : ∃ s, (nx 4 (nx 12 fd).2).1 = s := ⟨_, rfl⟩
  have HN : Hid ((nx 12 fd).1 = n) := hn
  have HS : Hid ((nx 4 (nx 12 fd).2).1 = s) := hs
  have HN12 : Hid (n < 12) := by unfold Hid; rw [← hn]; exact nx_lt 12 (by omega) fd
  clear hA0 hb0 hF0 hn hs
  go_enter Tryz.func25, Tryz.ntmps25
  go_wp2_with fail
  generalize w.alloc (.cells #[.string ⟨#[]⟩, .int .i64 0] 45) = u0 at *
  generalize hb4 : w.heap.size = b4 at H0 ⊢
  refine (next_any 12 (by omega) (by omega) _ w0.heap.size fb fd H0.out.fd).mono ?_
  rintro e u1 ⟨rfl, g1, f1⟩
  have H1 : Hid (KnS w0 w fb u1 b4 (nx 12 fd).2) := H0.out.next g1 f1
  rw [HN.out]
  clear g1 f1 H0
  go_wp2_with fail
  refine (next_any 4 (by omega) (by omega) _ w0.heap.size fb (nx 12 fd).2 H1.out.fd).mono ?_
  rintro e u2 ⟨rfl, g2, f2⟩
  have H2 : Hid (KnS w0 w fb u2 b4 (nx 4 (nx 12 fd).2).2) := H1.out.next g2 f2
  rw [HS.out]
  clear g2 f2 H1
  by_cases h0 : s = 0
  · have HE : Hid ((knG 0 fd) = (⟨dn' n, retA (vI n), n⟩, (nx 4 (nx 12 fd).2).2)) := by unfold Hid knG; rw [if_pos (by rw [HS.out, h0]), HN.out]
    subst h0
    go_wp2_with fail
    refine (num_any n (Nat.lt_trans HN12.out (by decide)) _ (hA.out.below (H2.out.amb hb.out HL.out))).mono ?_
    rintro e u3 ⟨rfl, b3⟩
    have H3 : Hid (KnS w0 w fb u3 b4 (nx 4 (nx 12 fd).2).2) := H2.out.below b3
    clear b3 H2
    obtain ⟨c0, c1, z0, z1, z2, z3⟩ := H3.out.cells
    have HD := H3.out.done (.string ⟨(Lib.decDigits n).toArray⟩) (.int .i64 n)
    have HD : Hid _ := HD
    go_wp2_with fail
    refine bodyPost_ret (results_cell1 rfl _ _ _ ⟨b4, 0, none⟩ _ _ rfl HD.out.1) rfl ?_
    rw [HE.out]
    refine ⟨?_, HD.out.2.1, HD.out.2.2⟩
    show _ = Ending.returned (.agg #[.string ⟨(rnd (dn' n)).toArray⟩, .int .i64 n])
    rw [rnd_dn (Nat.le_of_lt (Nat.lt_trans HN12.out (by decide)))]
  · have hs0 : ¬ (s : Int) = 0 := by omega
    have hs1 : ((s : Int) == 0) = false := by simpa using hs0
    by_cases h1 : s = 1
    · have HE : Hid ((knG 0 fd) = (⟨tAt :: tOpen :: ([tText (nmT n)] ++ [tClose]), atA (retA (vT ⟨(nmT n).toArray⟩)), n⟩, (nx 4 (nx 12 fd).2).2)) := by unfold Hid knG; rw [if_neg (by rw [HS.out]; exact h0), if_pos (by rw [HS.out, h1]), HN.out]
      subst h1
      clear h0 hs0 hs1
      go_wp2_with fail
      refine (name_any n (Nat.lt_trans HN12.out (by decide)) _).mono ?_
      rintro e u3 ⟨rfl, b3⟩
      have H3 : Hid (KnS w0 w fb u3 b4 (nx 4 (nx 12 fd).2).2) := H2.out.below b3
      clear b3 H2
      obtain ⟨c0, c1, z0, z1, z2, z3⟩ := H3.out.cells
      obtain ⟨s1, e1⟩ : ∃ s1 : ByteArray, (⟨([97, 116, 40, 34] ++ nmT n).toArray⟩ : ByteArray) = s1 := ⟨_, rfl⟩
      obtain ⟨s2, e2⟩ : ∃ s2 : ByteArray, (⟨([97, 116, 40, 34] ++ nmT n ++ [34, 41]).toArray⟩ : ByteArray) = s2 := ⟨_, rfl⟩
      obtain ⟨sn, en⟩ : ∃ sn : ByteArray, (⟨(nmT n).toArray⟩ : ByteArray) = sn := ⟨_, rfl⟩
      have k1 := cats (P := Tryz.prog) [97, 116, 40, 34] (nmT n) (by decide) (show 2 ≤ 20000 by decide)
      have k2 := cats (P := Tryz.prog) ([97, 116, 40, 34] ++ nmT n) [34, 41] (by rw [List.length_append]; show 4 + 2 ≤ 20000; decide) (by decide)
      rw [e1] at k1 k2
      rw [e2] at k2
      rw [en] at k1 ⊢
      have HS2 : Hid (s2 = ⟨([97, 116, 40, 34] ++ nmT n ++ [34, 41]).toArray⟩) := e2.symm
      clear e1 e2 en
      have HD := H3.out.done (.string s2) (.int .i64 n)
      have HD : Hid _ := HD
      go_wp2_with fail
      refine bodyPost_ret (results_cell1 rfl _ _ _ ⟨b4, 0, none⟩ _ _ rfl HD.out.1) rfl ?_
      rw [HE.out]
      refine ⟨?_, HD.out.2.1, HD.out.2.2⟩
      rw [HS2.out]
      rfl
    · have hs2 : ((s : Int) == 1) = false := by simpa using (show ¬ (s : Int) = 1 by omega)
      have HE : Hid ((knG 0 fd) = (⟨[tCell n], rdc n, n⟩, (nx 4 (nx 12 fd).2).2)) := by unfold Hid knG; rw [if_neg (by rw [HS.out]; exact h0), if_neg (by rw [HS.out]; exact h1), HN.out]
      clear h0 h1 hs0
      go_wp2_with fail
      refine (name_any n (Nat.lt_trans HN12.out (by decide)) _).mono ?_
      rintro e u3 ⟨rfl, b3⟩
      have H3 : Hid (KnS w0 w fb u3 b4 (nx 4 (nx 12 fd).2).2) := H2.out.below b3
      clear b3 H2
      obtain ⟨c0, c1, z0, z1, z2, z3⟩ := H3.out.cells
      have HD := H3.out.done (.string ⟨(nmT n).toArray⟩) (.int .i64 n)
      have HD : Hid _ := HD
      go_wp2_with fail
      refine bodyPost_ret (results_cell1 rfl _ _ _ ⟨b4, 0, none⟩ _ _ rfl HD.out.1) rfl ?_
      rw [HE.out]
      exact ⟨rfl, HD.out.2.1, HD.out.2.2⟩
end Go.Proofs.YtiocnfambeochaaGreatDoor

/- The statement's own 'known', walked. -/
set_option linter.unusedVariables false
set_option linter.unusedSimpArgs false
namespace Go.Proofs.YtiocnfambeochaaGreatDoor
open Go.RowKit

theorem rnd_two {j : Nat} {x : List UInt8} (a b : List Tk) (h : ptk (tOp j) = x) : rnd (tOpen :: ((a ++ tOp j :: b) ++ [tClose])) = [40] ++ rnd a ++ x ++ rnd b ++ [41] := by
  unfold rnd
  simp only [List.flatMap_cons, List.flatMap_append, List.flatMap_nil, List.append_nil, List.append_assoc, h]
  rfl
theorem rnd_div (a : List Tk) {n : Nat} (h : n ≤ 1000) : rnd (tOpen :: (((tOpen :: (a ++ [tClose])) ++ tOp 3 :: dn' n) ++ [tClose])) = [40, 40] ++ rnd a ++ [41, 32, 47, 32] ++ Lib.decDigits n ++ [41] := by
  rw [← rnd_dn h]
  unfold rnd
  simp only [List.flatMap_cons, List.flatMap_append, List.flatMap_nil, List.append_nil, List.append_assoc, List.cons_append]
  rfl
theorem rnd_sum (a : List Tk) : rnd (tOpen :: (([tSum, tOpen, tCell 0, tColon, tCell 8, tClose] ++ tOp 0 :: a) ++ [tClose])) = [40, 115, 117, 109, 40, 65, 49, 58, 67, 50, 41, 32, 43, 32] ++ rnd a ++ [41] := by
  unfold rnd
  simp only [List.flatMap_cons, List.flatMap_append, List.flatMap_nil, List.append_nil, List.append_assoc]
  rfl
theorem dec1' : Lib.decDigits 1 = [49] := by rw [Lib.decDigits, dif_pos (by omega)]; rfl
theorem rnd_bad (a : List Tk) : rnd (tIf :: tOpen :: (((tBad :: tOpen :: (a ++ [tClose])) ++ tComma :: (dn' 1 ++ tComma :: [tCount, tOpen, tCell 1, tColon, tCell 10, tClose])) ++ [tClose])) = [105, 102, 40, 98, 97, 100, 40] ++ rnd a ++ [41, 44, 32, 49, 44, 32, 99, 111, 117, 110, 116, 40, 66, 49, 58, 69, 50, 41, 41] := by
  unfold rnd dn'
  rw [dec1']
  simp only [List.flatMap_cons, List.flatMap_append, List.flatMap_nil, List.append_nil, List.append_assoc, List.cons_append, List.nil_append]
  rfl
theorem rnd_neg (a : List Tk) : rnd (tNeg :: tOpen :: (a ++ [tClose])) = [45, 40] ++ rnd a ++ [41] := by
  unfold rnd
  simp only [List.flatMap_cons, List.flatMap_append, List.flatMap_nil, List.append_nil, List.append_assoc]
  rfl
theorem dec100 : Lib.decDigits 100 = [49, 48, 48] := by rw [dec_dg3 (n := 100) (by omega)]; rfl
theorem dec200 : Lib.decDigits 200 = [50, 48, 48] := by rw [dec_dg3 (n := 200) (by omega)]; rfl
theorem rnd_if1 (a : List Tk) {n : Nat} (h : n ≤ 1000) : rnd (tIf :: tOpen :: (((a ++ tCmp 0 :: dn' n) ++ tComma :: (dn' 100 ++ tComma :: (tAt :: tOpen :: ([tText [81]] ++ [tClose])))) ++ [tClose])) = [105, 102, 40] ++ rnd a ++ [32, 60, 32] ++ Lib.decDigits n ++ [44, 32, 49, 48, 48, 44, 32, 97, 116, 40, 34, 81, 34, 41, 41] := by
  rw [← rnd_dn h]
  unfold rnd
  rw [show dn' 100 = [tNum [49, 48, 48]] by unfold dn'; rw [dec100]]
  simp only [List.flatMap_cons, List.flatMap_append, List.flatMap_nil, List.append_nil, List.append_assoc, List.cons_append, List.nil_append]
  rfl
theorem rnd_if2 (a : List Tk) {n : Nat} (h : n ≤ 1000) : rnd (tIf :: tOpen :: (((a ++ tCmp 0 :: dn' n) ++ tComma :: ((dn' 1 ++ tOp 3 :: dn' 0) ++ tComma :: dn' 200)) ++ [tClose])) = [105, 102, 40] ++ rnd a ++ [32, 60, 32] ++ Lib.decDigits n ++ [44, 32, 49, 32, 47, 32, 48, 44, 32, 50, 48, 48, 41] := by
  rw [← rnd_dn h]
  unfold rnd
  rw [show dn' 200 = [tNum [50, 48, 48]] by unfold dn'; rw [dec200], show dn' 1 = [tNum [49]] by unfold dn'; rw [dec1'], show dn' 0 = [tNum [48]] by unfold dn'; rw [dec0]]
  simp only [List.flatMap_cons, List.flatMap_append, List.flatMap_nil, List.append_nil, List.append_assoc, List.cons_append, List.nil_append]
  rfl
def KLn : Nat → Nat
  | 0 => 10
  | d + 1 => 2 * KLn d + 40
theorem dec_l {n : Nat} (h : n < 1000) : (Lib.decDigits n).length ≤ 3 := dec_len 2 n (by omega)
theorem kn_len : ∀ (deep : Nat) (fd : List UInt8), (rnd (knG deep fd).1.g).length ≤ KLn deep
  | 0, fd => by
    have hn := nx_lt 12 (by omega) fd
    unfold knG
    split
    · show (rnd (dn' _)).length ≤ 10
      rw [rnd_dn (by omega)]
      have := dec_l (n := (nx 12 fd).1) (by omega)
      omega
    · split
      · exact (show 8 ≤ 10 by decide)
      · exact (show 2 ≤ 10 by decide)
  | deep + 1, fd => by
    have ia := kn_len deep fd
    have ib := kn_len deep (nx 8 (knG deep fd).2).2
    unfold knG KLn
    dsimp only
    split
    · dsimp only; rw [rnd_two (j := 1) (x := [32, 45, 32]) _ _ rfl]; simp only [List.length_append, List.length_cons, List.length_nil]; omega
    · split
      · dsimp only; rw [rnd_two (j := 2) (x := [32, 42, 32]) _ _ rfl]; simp only [List.length_append, List.length_cons, List.length_nil]; omega
      · split
        · have hn := nx_lt 9 (by omega) (nx 8 (knG deep fd).2).2
          have := dec_l (n := 1 + (nx 9 (nx 8 (knG deep fd).2).2).1) (by omega)
          dsimp only; rw [rnd_div _ (by omega)]; simp only [List.length_append, List.length_cons, List.length_nil]; omega
        · split
          · have hn := nx_lt 12 (by omega) (nx 8 (knG deep fd).2).2
            have := dec_l (n := (nx 12 (nx 8 (knG deep fd).2).2).1) (by omega)
            dsimp only
            split
            · dsimp only; rw [rnd_if1 _ (by omega)]; simp only [List.length_append, List.length_cons, List.length_nil]; omega
            · dsimp only; rw [rnd_if2 _ (by omega)]; simp only [List.length_append, List.length_cons, List.length_nil]; omega
          · split
            · dsimp only; rw [rnd_sum]; simp only [List.length_append, List.length_cons, List.length_nil]; omega
            · split
              · dsimp only; rw [rnd_bad]; simp only [List.length_append, List.length_cons, List.length_nil]; omega
              · split
                · dsimp only; rw [rnd_neg]; simp only [List.length_append, List.length_cons, List.length_nil]; omega
                · dsimp only; rw [rnd_two (j := 0) (x := [32, 43, 32]) _ _ rfl]; simp only [List.length_append, List.length_cons, List.length_nil]; omega
theorem kn_small {deep : Nat} (h : deep ≤ 3) (fd : List UInt8) : (rnd (knG deep fd).1.g).length ≤ 1000 := by
  have := kn_len deep fd
  have h2 : deep = 0 ∨ deep = 1 ∨ deep = 2 ∨ deep = 3 := by omega
  have h3 : KLn deep ≤ 1000 := by rcases h2 with rfl | rfl | rfl | rfl <;> decide
  omega
theorem kn_bd {deep : Nat} (h : deep ≤ 3) (fd : List UInt8) : (knG deep fd).1.n.natAbs ≤ KB deep := (kn_ev (val := fun c => vI c) (fun _ _ => rfl) deep fd h).2
end Go.Proofs.YtiocnfambeochaaGreatDoor
