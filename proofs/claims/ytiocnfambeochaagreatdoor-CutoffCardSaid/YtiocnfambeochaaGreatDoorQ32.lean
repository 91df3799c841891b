/- Texts put together. -/
import Derived.Test.YtiocnfambeochaaGreatDoorQ31
import Derived.Test.YtiocnfambeochaaGreatDoorQ23
import Derived.Deep.RegionHeld3
/- A working out, walked: try. -/
set_option linter.unusedVariables false
set_option linter.unusedSimpArgs false
namespace Go.Proofs.YtiocnfambeochaaGreatDoor
open Go.RowKit

/-- The scope begins with something else, then the label. -/
theorem wp_scope_at2 {P : Program} {a : Act} {w : World} {Q : Exit → Act → World → Prop} {pre rest : Code} (l0 n0 : Nat) (J : Nat → Nat → Act → World → Prop) (hpre : pre.wp P (fun e a w => e = .normal ∧ J n0 l0 a w) a w) (hf : ∀ l, findLabel pre l = none)
    (pass0 : ∀ n a w, J n l0 a w → rest.wp P (jumpsQ (fun l' a' w' => ∃ n', n' < n ∧ J n' l' a' w') Q) a w)
    (only : ∀ n l a w, J n l a w → l = l0) : (Code.scope (pre.seq ((Code.label l0).seq rest))).wp P Q a w := by
  refine wp_scope_ghost J ?_ ?_
  · apply wp_seq
    refine wp_more hpre fun e a w hq => ?_
    obtain ⟨rfl, hJ⟩ := hq
    show ((Code.label l0).seq rest).wp P _ a w
    apply wp_seq
    apply wp_label
    refine wp_more (pass0 n0 a w hJ) fun e a w hq => ?_
    cases e with
    | goto l => obtain ⟨n', _, h⟩ := hq; exact ⟨n', h⟩
    | _ => exact hq
  · intro n l a w hJ
    have hl := only n l a w hJ
    subst hl
    refine ⟨Code.seq .skip rest, by simp [findLabel, hf], ?_⟩
    apply wp_seq
    apply wp_skip
    exact pass0 n a w hJ
section
variable {E : Env} {c : Nat} {r r' : Rn} {a : Ans} {l : List Ans}
theorem tryK_done (hd : a.rs.length ≤ (r.tk c).held) : tryK E c (a :: l) r = (settle r c a, true) := by
  rw [tryK, List.drop_eq_nil_of_le hd]; rfl
theorem drop_atR {x : Rd} {rs : List Rd} {n : Nat} (hx : rs[n]? = some x) : rs.drop n = x :: rs.drop (n + 1) := by
  have hl := (List.getElem?_eq_some_iff.1 hx).1
  rw [List.drop_eq_getElem_cons hl]
  congr 1
  exact (List.getElem?_eq_some_iff.1 hx).2
theorem tryK_wait {x : Rd} (hx : a.rs[(r.tk c).held]? = some x) (hl : look E r c x.nd.c = (r', none)) : tryK E c (a :: l) r = (r', false) := by
  rw [tryK, drop_atR hx, tryR, hl]
theorem tryK_not {x : Rd} {v : V} (hx : a.rs[(r.tk c).held]? = some x) (hl : look E r c x.nd.c = (r, some v)) (hn : (see x.nd v).eqB x.w = false) : tryK E c (a :: l) r = tryK E c l (r.put c { r.tk c with kn := l, held := 0 }) := by
  rw [tryK, drop_atR hx, tryR, hl]
  simp only [hn]
  rfl
theorem tryK_hold {x : Rd} {v : V} (hx : a.rs[(r.tk c).held]? = some x) (hl : look E r c x.nd.c = (r, some v)) (hn : (see x.nd v).eqB x.w = true) : tryK E c (a :: l) r = tryK E c (a :: l) (r.put c { r.tk c with held := (r.tk c).held + 1 }) := by
  rw [tryK, tryK, drop_atR hx, tryR, hl]
  simp only [hn, if_true, put_same]
theorem look_some {o : Nat} {v : V} (h : (look E r c o).2 = some v) : look E r c o = (r, some v) := by
  unfold look at h ⊢
  split
  · rename_i h3; rw [if_pos h3] at h; cases h; rfl
  · rename_i h3
    rw [if_neg h3] at h
    split
    · rename_i hw; rw [if_pos hw] at h; cases h; rfl
    · rename_i hw; rw [if_neg hw] at h; cases h
end
theorem rdC_len (x : Rd) : (rdC x).length = 5 := rfl
/-- Where the first of the known answers lies. -/
theorem KN.head {w : World} {own : Nat → Nat} {b j col : Nat} {a : Ans} {l : List Ans} (h : KN w own b j col (a :: l)) : ∃ g o cap ao cp, w.cell? ⟨b, j, none⟩ = some (.slice (some ⟨g, o, none⟩) (l.length + 1) cap) ∧ l.length + 1 ≤ cap ∧ g ≠ b ∧
    w.cell? ⟨g, o, none⟩ = some (.string a.f) ∧ w.cell? ⟨g, o + 1, none⟩ = some (.slice ao a.rs.length cp) ∧ w.cell? ⟨g, o + 2, none⟩ = some (.int .i64 a.v.k) ∧ w.cell? ⟨g, o + 3, none⟩ = some (.int .i64 a.v.n) ∧ w.cell? ⟨g, o + 4, none⟩ = some (.string a.v.s) ∧
    RdSl w (.slice ao a.rs.length cp) a.rs ∧ (∀ g', (Value.slice ao a.rs.length cp).ownBlock = some g' → own g' = 0) ∧
    (∀ nv, (nv = .slice (some ⟨g, o + 5, none⟩) l.length (cap - 1) ∨ (cap = 1 ∧ nv = .slice (some ⟨g, o, none⟩) 0 0)) → ∃ xs, SlC w own b col 95 5 nv l.length xs ∧ AL w own l xs) := by
  obtain ⟨v, xs, h1, h2, ⟨rv, q, e1, e2, e3, e4⟩⟩ := h
  obtain ⟨ao, cp, rfl⟩ := Slc.len e2
  have hsl := h2.sl
  rcases hsl.2 with ⟨_, h0⟩ | ⟨g, o, cap, cur, rfl, hg, hn, hcm, hs, ht⟩
  · simp at h0
  · have cc := fun t u hu => hsl.cell t u hu
    rw [List.length_cons] at h1 hn
    refine ⟨g, o, cap, ao, cp, h1, hn, (h2.col g rfl).2, cc 0 _ (by rw [e1]; rfl), cc 1 _ (by rw [e1]; rfl), cc 2 _ (by rw [e1]; rfl), cc 3 _ (by rw [e1]; rfl), cc 4 _ (by rw [e1]; rfl), e2, e3, fun nv hnv => ⟨q, ⟨?_, ?_⟩, e4⟩⟩
    · have hql := AL.len l q e4
      rcases hnv with rfl | ⟨rfl, rfl⟩
      · refine ⟨hql, .inr ⟨g, o + 5, cap - 1, cur, rfl, hg, by omega, by omega, by omega, ?_⟩⟩
        have e : (cur.toList.drop o).take ((l.length + 1) * 5) = aC a (.slice ao a.rs.length cp) ++ q := by rw [← e1]; exact ht
        rw [show cur.toList.drop (o + 5) = (cur.toList.drop o).drop 5 by rw [List.drop_drop], show l.length * 5 = (l.length + 1) * 5 - 5 by omega, ← List.drop_take, e]
        rfl
      · have hl0 : l = [] := List.eq_nil_of_length_eq_zero (by omega)
        subst hl0
        have : q = [] := e4
        subst this
        exact ⟨rfl, .inr ⟨g, o, 0, cur, rfl, hg, by simp, by omega, by omega, by simp⟩⟩
    · intro k hk
      have : k = g := by rcases hnv with rfl | ⟨_, rfl⟩ <;> (cases hk; rfl)
      subst this
      exact h2.col k rfl
theorem RdSl.read {w : World} {ao : Option Addr} {cp : Nat} {rs : List Rd} (h : RdSl w (.slice ao rs.length cp) rs) {n : Nat} {x : Rd} (hx : rs[n]? = some x) : ∃ g o, ao = some ⟨g, o, none⟩ ∧ rs.length ≤ cp ∧ w.cell? ⟨g, o + n * 5, none⟩ = some (.int .i64 x.nd.c) ∧ w.cell? ⟨g, o + n * 5 + 1, none⟩ = some (.bool x.nd.a) ∧ w.cell? ⟨g, o + n * 5 + 2, none⟩ = some (.int .i64 x.w.k) ∧ w.cell? ⟨g, o + n * 5 + 3, none⟩ = some (.int .i64 x.w.n) ∧ w.cell? ⟨g, o + n * 5 + 4, none⟩ = some (.string x.w.s) := by
  have hl := (List.getElem?_eq_some_iff.1 hx).1
  obtain ⟨g, o, cap, e, hc⟩ := Slc.at h (by omega)
  cases e
  have f := fun t u hu => Slc.cell h _ _ (flat3_get rdC_len rs n x t u hx hu)
  refine ⟨g, o, rfl, hc, f 0 _ rfl, ?_, ?_, ?_, ?_⟩
  · rw [Nat.add_assoc]; exact f 1 _ rfl
  · rw [Nat.add_assoc]; exact f 2 _ rfl
  · rw [Nat.add_assoc]; exact f 3 _ rfl
  · rw [Nat.add_assoc]; exact f 4 _ rfl
/-- The first of the known answers goes. -/
theorem RR.dropKn {w : World} {own : Nat → Nat} {b x c : Nat} {r : Rn} {l : List Ans} (h : RR w own b x r) (hc : c < 48) (hs : (r.tk c).st = 1) (nv : Value) (xs : List Value) (hS : SlC w own b (cK c) 95 5 nv l.length xs) (hA : AL w own l xs) :
    RS w own b x ((w.setCell ⟨b, T c + 2, none⟩ nv).setCell ⟨b, T c + 3, none⟩ (.int .i64 0)) (r.put c { r.tk c with kn := l, held := 0 }) := by
  obtain ⟨cs, hb, hsz⟩ := h.blk
  have ht := h.tk c hc
  have hb1 := rset (k := T c + 2) (u := nv) hb
  have hsz1 : (cs.setIfInBounds (T c + 2) nv).size = 1059 := by rw [Array.size_setIfInBounds]; exact hsz
  have g : Chg own (cC c) b (T c) (T c + 16) w ((w.setCell ⟨b, T c + 2, none⟩ nv).setCell ⟨b, T c + 3, none⟩ (.int .i64 0)) := ((Chg.refl _ _ _ _ _ _).put (by omega) (by omega) _).put (by omega) (by omega) _
  refine ⟨own, h.task hc g (fun _ _ _ => rfl) ?_⟩
  refine { st := by rw [cset187 hb1 (by omega), cset187 hb (by omega)]; exact ht.st, wt := by rw [cset187 hb1 (by omega), cset187 hb (by omega)]; exact ht.wt, kn := ⟨nv, xs, ?_, ⟨?_, hS.col⟩, (hA.setB hb _ _).setB hb1 _ _⟩, held := csame187 hb1 (by rw [hsz1]; unfold T; omega) _, run := fun e => by have e : (r.tk c).st = 2 := e; omega, ans := fun e => (by have e : (r.tk c).st = 3 := e; omega), mz := fun e => by have e : (r.tk c).st = 3 := e; omega }
  · rw [cset187 hb1 (by omega)]; exact csame187 hb (by unfold T; omega) _
  · exact hS.sl.kept fun k hk => by rw [Below.heap_setCell _ _ _ _ (hS.col k hk).2, Below.heap_setCell _ _ _ _ (hS.col k hk).2]
end Go.Proofs.YtiocnfambeochaaGreatDoor

/- A working out, walked: Holds. -/
set_option linter.unusedVariables false
set_option linter.unusedSimpArgs false
namespace Go.Proofs.YtiocnfambeochaaGreatDoor
open Go.RowKit

set_option maxRecDepth 100000 in
set_option maxHeartbeats 2000000 in
theorem holds_w (x : Rd) (v : V) (w : World) : Calls Tryz.prog 173 #[.agg #[.int .i64 x.nd.c, .bool x.nd.a, .int .i64 x.w.k, .int .i64 x.w.n, .string x.w.s], vV v] w fun e w' => e = .returned (.bool ((see x.nd v).eqB x.w)) ∧ Below w.heap.size w w' := by
  have HS : Hid (Gives 178 #[.agg #[.int .i64 x.nd.c, .bool x.nd.a], vV v] (vV (see x.nd v))) := see_w x.nd v
  obtain ⟨s, hs⟩ : ∃ s, see x.nd v = s := ⟨_, rfl⟩
  rw [hs] at HS ⊢
  clear hs
  have key := cmps s x.w
  obtain ⟨B, hB⟩ : ∃ B, s.eqB x.w = B := ⟨_, rfl⟩
  rw [hB] at key ⊢
  clear hB
  unfold vV at HS ⊢
  rcases key with ⟨rfl, h1, h2, h3⟩ | ⟨rfl, h1⟩ | ⟨rfl, h1, h2⟩ | ⟨rfl, h1, h2, h3⟩
  all_goals
    go_enter Tryz.func173, Tryz.ntmps173
    go_wp2_with fail
    have hbx := box5 (two0 w (.cells #[.int .i64 x.nd.c, .bool x.nd.a, .int .i64 x.w.k, .int .i64 x.w.n, .string x.w.s] 274) (.cells #[.int .i64 v.k, .int .i64 v.n, .string v.s] 52))
    obtain ⟨q0, q1, q2, q3, q4⟩ := hbx
    have hvx : ((w.alloc (.cells #[.int .i64 x.nd.c, .bool x.nd.a, .int .i64 x.w.k, .int .i64 x.w.n, .string x.w.s] 274)).alloc (.cells #[.int .i64 v.k, .int .i64 v.n, .string v.s] 52)).drew.heap[w.heap.size + 1]? = some (.cells #[.int .i64 v.k, .int .i64 v.n, .string v.s] 52 (0, 0)) := by
      have := rnew (w.alloc (.cells #[.int .i64 x.nd.c, .bool x.nd.a, .int .i64 x.w.k, .int .i64 x.w.n, .string x.w.s] 274)) #[.int .i64 v.k, .int .i64 v.n, .string v.s] 52
      rw [show (w.alloc (.cells #[.int .i64 x.nd.c, .bool x.nd.a, .int .i64 x.w.k, .int .i64 x.w.n, .string x.w.s] 274)).heap.size = w.heap.size + 1 by simp] at this
      exact this
    obtain ⟨y0, y1, y2, _, _, _⟩ := box3 rfl hvx
    go_region_held3 (fun w' => w'.cell? ⟨w.heap.size, 0, none⟩ = some (.int .i64 x.nd.c) ∧ w'.cell? ⟨w.heap.size, 1, none⟩ = some (.bool x.nd.a) ∧ w'.cell? ⟨w.heap.size, 2, none⟩ = some (.int .i64 x.w.k) ∧ w'.cell? ⟨w.heap.size, 3, none⟩ = some (.int .i64 x.w.n) ∧ w'.cell? ⟨w.heap.size, 4, none⟩ = some (.string x.w.s) ∧ w'.cell? ⟨w.heap.size + 1, 0, none⟩ = some (.int .i64 v.k) ∧ w'.cell? ⟨w.heap.size + 1, 1, none⟩ = some (.int .i64 v.n) ∧ w'.cell? ⟨w.heap.size + 1, 2, none⟩ = some (.string v.s)) (go_keep) (first
      | (go_at_call 178; refine (HS.out _).mono ?_; rintro e w1 ⟨rfl, hb1⟩; obtain ⟨p0, p1, p2, p3, p4⟩ := box5 (bb (two0 w _ _) hb1); obtain ⟨p5, p6, p7, _, _, _⟩ := box3 rfl (bb hvx hb1); have HB : Hid (Below w.heap.size w w1) := ((bl2 w _ _).drew).trans (hb1.mono (by simp; omega)); clear hb1))
  all_goals
    go_wp2_with fail
    go_ret
    exact ⟨rfl, HB.out⟩
end Go.Proofs.YtiocnfambeochaaGreatDoor
