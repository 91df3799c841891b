/- Texts put together. -/
import Derived.Test.YtiocnfambeochaaGreatDoorVd
import Derived.Test.YtiocnfambeochaaGreatDoorQ15
import Derived.Deep.RegionWith
import Derived.Deep.DrawnRows
/- Plain mathematics: texts of known making: tokens spelt out; numbers of any size. -/
set_option linter.unusedVariables false
set_option linter.unusedSimpArgs false
namespace Go.Proofs.YtiocnfambeochaaGreatDoor

theorem plain_toks (s : List UInt8) (g : List Tk) (hs : SC s (kxs g)) (hg : Is 0 8 g) (hc : chk g.length g = none) (hl : s.length ≤ 120) :
    (rd s).e = 0 ∧ plT s = g.flatMap ptk ∧ (rdA s).ts.map kxT = g.map kxT := by
  obtain ⟨ts, e1, e2⟩ := hs 0 s.length (Nat.le_refl _)
  have hsim : Sim (g.map unm) ts := by
    unfold Sim
    rw [List.map_map]
    have : ts.map kx = kxs g := e2
    rw [this]
    rfl
  obtain ⟨f, ef⟩ := hg [] [] 0 (by omega) (by simp [kindAt, goesOn])
  simp only [List.nil_append, List.append_nil, List.length_nil, Nat.zero_add] at ef
  have h1 := prs_sim f 0 (g.map unm) ts 0 0 hsim
  rw [ef] at h1
  match hq : prs f 0 ts 0 0, h1 with
  | none, h1 => exact absurd h1 (by simp [SimR])
  | some q, ⟨h1, h2, _, h4⟩ =>
    obtain ⟨r, er, _⟩ := prs_fuel (8 * ts.length + 6) 0 ts 0 0 (by omega) (by have : rk 0 = 5 := rfl; omega)
    have a1 := prs_le (Nat.le_max_left f (8 * ts.length + 6)) hq
    have a2 := prs_le (Nat.le_max_right f (8 * ts.length + 6)) er
    rw [a1, Option.some.injEq] at a2
    subst a2
    have hlen : g.length = q.ts.length := h4.len
    have hchk : chk q.ts.length q.ts = none := by rw [← hlen]; exact chk_sim _ _ _ h4 hc
    have hrd : rdA s = ⟨0, 0, q.ts⟩ := by
      rw [rdA, e1]
      simp only
      rw [er]
      simp only
      unfold rdP
      rw [if_neg (by rw [← h1, ← h2]; simp [hlen]), hchk]
    have hrd2 : rd s = ⟨0, 0, q.ts⟩ := by
      unfold rd
      rw [if_neg (by omega), hrd]
    refine ⟨by rw [hrd2], ?_, ?_⟩
    · unfold plT
      rw [hrd2, if_pos rfl]
      exact (flat_sim h4).symm
    · rw [hrd]
      have : g.map kx = q.ts.map kx := h4
      exact this.symm
theorem flat_ne {g : List Tk} (h : Good g) (hne : g ≠ []) : (g.flatMap ptk).isEmpty = false := by
  cases g with
  | nil => exact absurd rfl hne
  | cons t r =>
    obtain ⟨c, x, hx, _⟩ := h.1.head
    obtain ⟨a, b, _, e⟩ := ptk_parts t h.2.1
    rw [List.flatMap_cons, e, hx]
    cases a with
    | zero => rfl
    | succ a => rfl
theorem txt_gen {g : List Tk} {d : Beh} {n : Nat} (hg : FG n g) (hn : n ≤ 8) (hb : ∀ t ∈ g, tokB t = true) (hz : g.map np = g) (hl : (g.flatMap ptk).length ≤ 120) (hcg : CG 0 g d) : TxtOK ⟨(g.flatMap ptk).toArray⟩ d := by
  obtain ⟨h1, h2, h3⟩ := plain_toks (g.flatMap ptk) g (sc_plain g hg.good) (hg.is.more hn) (ck_end hg.ck) hl
  refine txt_of (g := g) (flat_ne hg.good hg.ne) h1 h2 ?_ ?_ hcg
  · rw [h3, ← np_kx]; exact hz
  · rw [List.all_eq_true]
    intro t ht
    have hm : kxT t ∈ g.map kxT := by rw [← h3]; exact List.mem_map.2 ⟨t, ht, rfl⟩
    obtain ⟨u, hu, e⟩ := List.mem_map.1 hm
    have e1 : u.k = t.k := congrArg Prod.fst e
    have e2 : u.x = t.x := congrArg Prod.snd e
    have := hb u hu
    unfold tokB at this ⊢
    rw [e1, e2] at this
    exact this
theorem dec_dig (u : Nat) : ∀ a ∈ Lib.decDigits u, dgB (a.toNat : Int) = true := by
  induction u using Nat.strongRecOn with
  | _ u ih =>
    rw [Lib.decDigits]
    by_cases h : u < 10
    · rw [dif_pos h]
      intro a ha
      rw [List.mem_singleton] at ha
      rw [ha]; exact dg_digit u h
    · rw [dif_neg h]
      intro a ha
      rcases List.mem_append.1 ha with ha | ha
      · exact ih (u / 10) (by omega) a ha
      · rw [List.mem_singleton] at ha
        rw [ha]; exact dg_digit _ (by omega)
theorem val_app (l : List UInt8) (c : UInt8) : valN (l ++ [c]) = 10 * valN l + (c.toNat - 48) := by
  unfold valN
  rw [List.foldl_append]
  rfl
theorem dec_val (u : Nat) : valN (Lib.decDigits u) = u := by
  induction u using Nat.strongRecOn with
  | _ u ih =>
    rw [Lib.decDigits]
    by_cases h : u < 10
    · rw [dif_pos h]
      show 10 * 0 + ((UInt8.ofNat (48 + u)).toNat - 48) = u
      rw [ofNat_digit u h]; omega
    · rw [dif_neg h, val_app, ih (u / 10) (by omega), ofNat_digit _ (by omega)]; omega
theorem dec_len : ∀ (k u : Nat), u < 10 ^ (k + 1) → (Lib.decDigits u).length ≤ k + 1
  | 0, u, h => by
    rw [Lib.decDigits, dif_pos (by omega)]; simp
  | k + 1, u, h => by
    rw [Lib.decDigits]
    by_cases h1 : u < 10
    · rw [dif_pos h1]; simp
    · rw [dif_neg h1, List.length_append]
      have := dec_len k (u / 10) (by rw [Nat.pow_succ] at h; omega)
      simp only [List.length_singleton]
      omega
theorem dec_head (u : Nat) : ∃ c r, Lib.decDigits u = c :: r ∧ (1 ≤ u → (c == 48) = false) ∧ (u = 0 → r = []) := by
  induction u using Nat.strongRecOn with
  | _ u ih =>
    rw [Lib.decDigits]
    by_cases h : u < 10
    · rw [dif_pos h]
      exact ⟨_, [], rfl, fun h1 => ne48 u h (by omega), fun _ => rfl⟩
    · rw [dif_neg h]
      obtain ⟨c, r, e, h1, _⟩ := ih (u / 10) (by omega)
      rw [e]
      exact ⟨c, _, rfl, fun _ => h1 (by omega), fun h0 => absurd h0 (by omega)⟩
theorem dec_big (u : Nat) (h : u ≤ 9223372036854775807) : TO (unm (tNum (Lib.decDigits u))).k (tNum (Lib.decDigits u)).x ∧ nzT (Lib.decDigits u) = Lib.decDigits u ∧ tokB (tNum (Lib.decDigits u)) = true := by
  obtain ⟨c, r, e, h1, h2⟩ := dec_head u
  have hd := dec_dig u
  have hv := dec_val u
  have hl := dec_len 18 u (by omega)
  rw [e] at hd hv hl ⊢
  have hl : r.length ≤ 18 := by simpa using hl
  refine ⟨to_num c r hd hl (by omega), ?_, ?_⟩
  · unfold nzT
    rw [List.dropWhile_cons]
    cases hc : (c == 48)
    · simp
    · by_cases hu : u = 0
      · rw [h2 hu]
        have : c = 48 := by simpa using hc
        simp [this]
      · have := h1 (by omega); rw [hc] at this; cases this
  · unfold tokB tNum tk
    have h3 : (c :: r).all (fun c => dgB (c.toNat : Int)) = true := List.all_eq_true.2 hd
    simp only [h3, List.length_cons]
    simp
    omega
end Go.Proofs.YtiocnfambeochaaGreatDoor

/- The statement's own 'formula': out of raw bytes it writes what 'gen' says. -/
namespace Go.Proofs.YtiocnfambeochaaGreatDoor
open Go.RowKit

def rnd (g : List Tk) : List UInt8 := g.flatMap ptk




end Go.Proofs.YtiocnfambeochaaGreatDoor

/- The statement's own 'formula', one deeper: the ways that do not leave an order open. -/
namespace Go.Proofs.YtiocnfambeochaaGreatDoor
open Go.RowKit



def rng (n : Nat) : List UInt8 := if n = 0 then [115, 117, 109, 40, 65, 49, 58, 67, 50, 41] else if n = 1 then [99, 111, 117, 110, 116, 40, 65, 49, 58, 70, 49, 41] else if n = 2 then [115, 117, 109, 40, 66, 50, 58, 66, 50, 41] else [99, 111, 117, 110, 116, 40, 68, 49, 58, 70, 50, 41]








end Go.Proofs.YtiocnfambeochaaGreatDoor

/- The statement's own 'formula', one deeper: the two ways that leave an order open. -/
attribute [local go_sem ↓] Go.wp_at_zero Go.wp_at_succ
namespace Go.Proofs.YtiocnfambeochaaGreatDoor
open Go.RowKit







theorem gb_al {a b : World} {row : Option Nat} (o : Obj) (h : a.grownBy b row) : a.grownBy (b.alloc o) row := gb_trans h (gb_below ((Below.refl _ _).alloc (Nat.le_refl _) _))

end Go.Proofs.YtiocnfambeochaaGreatDoor

/- The statement's own 'formula', one deeper: the way with an operator, whose region draws its order. -/
attribute [local go_sem ↓] Go.wp_at_zero Go.wp_at_succ
namespace Go.Proofs.YtiocnfambeochaaGreatDoor
open Go.RowKit

end Go.Proofs.YtiocnfambeochaaGreatDoor

/- The statement's own 'formula': the way that compares, out of its walk. -/
namespace Go.Proofs.YtiocnfambeochaaGreatDoor
open Go.RowKit


theorem cats {P : Program} (x y : List UInt8) (hx : x.length ≤ 20000) (hy : y.length ≤ 20000) : ∀ w : World, (Op.stringOp .add ⟨x.toArray⟩ ⟨y.toArray⟩).run P w = .ok (.string ⟨(x ++ y).toArray⟩) w := fun w =>
  run_string_add_lists w x y (by omega) (by omega)

end Go.Proofs.YtiocnfambeochaaGreatDoor

/- The statement's own 'formula', at every depth that is asked. -/
namespace Go.Proofs.YtiocnfambeochaaGreatDoor
open Go.RowKit



end Go.Proofs.YtiocnfambeochaaGreatDoor

/- Plain mathematics: the texts that are made of raw bytes; a batch of them. -/
set_option linter.unusedVariables false
set_option linter.unusedSimpArgs false
namespace Go.Proofs.YtiocnfambeochaaGreatDoor

def okT (t : Tk) : Bool := tokB t && decide (t.p = 0)
theorem okT_np {t : Tk} (h : okT t = true) : np t = t := by
  unfold okT at h
  simp only [Bool.and_eq_true, decide_eq_true_eq] at h
  obtain ⟨k, x, p⟩ := t
  have : p = 0 := h.2
  subst this
  rfl
theorem okT_tok {t : Tk} (h : okT t = true) : tokB t = true := by
  unfold okT at h
  simp only [Bool.and_eq_true] at h
  exact h.1
theorem okt_num {u : Nat} (h : u < 200) : okT (tNum (Lib.decDigits u)) = true := by
  unfold okT
  rw [(dec_big u (by omega)).2.2]; rfl
theorem ok_cell (n : Nat) : okT (tCell n) = true := by
  unfold okT tokB tCell tk
  simp
theorem ok_op (n : Nat) : okT (tOp n) = true := by
  unfold tOp
  repeat' split
  all_goals decide
theorem ok_cmp (n : Nat) : okT (tCmp n) = true := by
  unfold tCmp
  repeat' split
  all_goals decide
theorem ok_cons {t : Tk} {l : List Tk} (h : okT t = true) (hl : ∀ t ∈ l, okT t = true) : ∀ u ∈ t :: l, okT u = true := by
  intro u hu
  rcases List.mem_cons.1 hu with rfl | hu
  · exact h
  · exact hl u hu
theorem ok_app {a b : List Tk} (ha : ∀ t ∈ a, okT t = true) (hb : ∀ t ∈ b, okT t = true) : ∀ u ∈ a ++ b, okT u = true := by
  intro u hu
  rcases List.mem_append.1 hu with hu | hu
  · exact ha u hu
  · exact hb u hu
theorem ok_nil : ∀ t ∈ ([] : List Tk), okT t = true := fun _ h => by cases h
theorem map_np {g : List Tk} (h : ∀ t ∈ g, okT t = true) : g.map np = g := by
  induction g with
  | nil => rfl
  | cons t r ih => rw [List.map_cons, okT_np (h t List.mem_cons_self), ih (fun u hu => h u (List.mem_cons_of_mem _ hu))]
def gT (deep : Nat) (fd : List UInt8) : ByteArray := ⟨(rnd (gen deep fd).1).toArray⟩
def bE (fd : List UInt8) : (ByteArray × ByteArray) × List UInt8 :=
  if (nx 6 (nx 12 fd).2).1 = 0 then ((⟨(nmT (nx 12 fd).1).toArray⟩, eB), (nx 6 (nx 12 fd).2).2)
  else ((⟨(nmT (nx 12 fd).1).toArray⟩, gT (nx 3 (nx 6 (nx 12 fd).2).2).1 (nx 3 (nx 6 (nx 12 fd).2).2).2), (gen (nx 3 (nx 6 (nx 12 fd).2).2).1 (nx 3 (nx 6 (nx 12 fd).2).2).2).2)
def bL : Nat → List UInt8 → List (ByteArray × ByteArray)
  | 0, _ => []
  | n + 1, fd => (bE fd).1 :: bL n (bE fd).2
def bB (fd : List UInt8) : List (ByteArray × ByteArray) := bL (1 + (nx 4 fd).1) (nx 4 fd).2
theorem bL_len : ∀ (n : Nat) (fd : List UInt8), (bL n fd).length = n
  | 0, _ => rfl
  | n + 1, fd => by show (bL n (bE fd).2).length + 1 = n + 1; rw [bL_len n]
theorem bB_len (fd : List UInt8) : (bB fd).length ≤ 4 := by
  unfold bB
  rw [bL_len]
  have := nx_lt 4 (by omega) fd
  omega
def GenT (t : ByteArray) : Prop := ∃ deep fd, deep ≤ 2 ∧ t = gT deep fd ∧ ∃ d, TxtOK t d
structure PlayR (fs fs' : Nat → ByteArray) : Prop where
  far : ∀ c, 12 ≤ c → fs' c = fs c
  near : ∀ c, fs' c = fs c ∨ fs' c = eB ∨ GenT (fs' c)
theorem PlayR.refl (fs : Nat → ByteArray) : PlayR fs fs := ⟨fun _ _ => rfl, fun _ => .inl rfl⟩
theorem PlayR.trans {a b c : Nat → ByteArray} (h : PlayR a b) (k : PlayR b c) : PlayR a c :=
  ⟨fun i hi => (k.far i hi).trans (h.far i hi), fun i => by
    rcases k.near i with g | g | g
    · rcases h.near i with f | f | f
      · exact .inl (g.trans f)
      · exact .inr (.inl (g.trans f))
      · exact .inr (.inr (by rw [g]; exact f))
    · exact .inr (.inl g)
    · exact .inr (.inr g)⟩
theorem PlayR.ft {fs fs' : Nat → ByteArray} (h : PlayR fs fs') (hf : FsT fs) : FsT fs' := by
  refine ⟨fun c hc => ?_, fun c hc => by rw [h.far c (by omega)]; exact hf.out c hc⟩
  rcases h.near c with g | g | ⟨_, _, _, _, g⟩
  · rw [g] at hc ⊢; exact hf.t c hc
  · exact absurd g hc
  · exact g
theorem cell_nmT {c : Nat} (h : c < 12) : cellN (⟨(nmT c).toArray⟩ : ByteArray).data.toList = some c := by
  have := cellN_name (n := c) (by omega)
  exact this
end Go.Proofs.YtiocnfambeochaaGreatDoor

/- Plain mathematics: what comes of the statement Choice. -/
set_option linter.unusedVariables false
set_option linter.unusedSimpArgs false
namespace Go.Proofs.YtiocnfambeochaaGreatDoor

def nT (n : Nat) : ByteArray := ⟨(Lib.decDigits n).toArray⟩
section
variable {E : Env} {left : Bool} {n : Nat} {o : ByteArray} {val : Nat → V}
end
end Go.Proofs.YtiocnfambeochaaGreatDoor

/- Plain mathematics: which cells are begun in the statement Choice. -/
set_option linter.unusedVariables false
set_option linter.unusedSimpArgs false
namespace Go.Proofs.YtiocnfambeochaaGreatDoor

theorem KInv.rs {E : Env} {fs : Nat → ByteArray} {k : Kp} (hk : KInv E fs k) {c : Nat} (h0 : fs c ≠ eB) {rs : List Rd} (ht : Tr (E.D (fs c)) rs) {v : V} (hv : E.D (fs c) (ws rs) = .inl v) (hh : Hold (fun c => (k.last c).v) rs) (hc : (k.last c).v ≠ cyc) : (k.last c).rs = rs := by
  obtain ⟨⟨_, g1, g2, _⟩, g4⟩ := hk.good c h0 hc
  rw [hk.f c] at g1 g2
  refine (tr_same _ _ _ _ _ g1 ht g2 hv fun r hr r' hr' e => ?_).1
  rw [(g4 r hr).1, (hh r' hr').1, e]
section
variable {E : Env} {left : Bool} {n : Nat} {k1 k2 : Kp} {o2 w2 : Nat} {bg2 : List Nat}
end
end Go.Proofs.YtiocnfambeochaaGreatDoor

/- Plain mathematics: what a formula comes to by values that are known; the statement Known's own formulas. -/
set_option linter.unusedVariables false
set_option linter.unusedSimpArgs false
namespace Go.Proofs.YtiocnfambeochaaGreatDoor

theorem kn_run {k : V → Beh} : ∀ (h1 h2 : List V) (d : Beh) (v : V), (∀ i, i < h1.length → ∃ nd, d (h1.take i) = .inr nd) → d h1 = .inl v → bindH k (h1 ++ h2) d = k v h2
  | [], h2, d, v, _, hv => by
    cases h2 with
    | nil => show bindH k [] d = _; unfold bindH; rw [hv]
    | cons x l => show bindH k (x :: l) d = _; unfold bindH; rw [hv]
  | x :: h1, h2, d, v, hp, hv => by
    obtain ⟨nd, h0⟩ := hp 0 (Nat.zero_lt_succ _)
    have h0 : d [] = .inr nd := h0
    show bindH k (x :: (h1 ++ h2)) d = _
    unfold bindH
    rw [h0]
    exact kn_run h1 h2 _ v (fun i hi => hp (i + 1) (Nat.succ_lt_succ hi)) hv
theorem kn_ask {k : V → Beh} : ∀ (h : List V) (d : Beh) (nd : Nd), (∀ i, i < h.length → ∃ nd, d (h.take i) = .inr nd) → d h = .inr nd → bindH k h d = .inr nd
  | [], d, nd, _, hv => by unfold bindH; rw [hv]
  | x :: h, d, nd, hp, hv => by
    obtain ⟨n0, h0⟩ := hp 0 (Nat.zero_lt_succ _)
    have h0 : d [] = .inr n0 := h0
    unfold bindH
    rw [h0]
    exact kn_ask h _ nd (fun i hi => hp (i + 1) (Nat.succ_lt_succ hi)) hv
theorem tr_of : ∀ (l : List Rd) (d : Beh), (∀ i r, l[i]? = some r → d (ws (l.take i)) = .inr r.nd) → Tr d l
  | [], _, _ => trivial
  | a :: l, d, h => ⟨h 0 a rfl, tr_of l _ (fun i r hi => h (i + 1) r hi)⟩
theorem ws_take (l : List Rd) (i : Nat) : (ws l).take i = ws (l.take i) := by unfold ws; rw [List.map_take]
theorem ws_app (a b : List Rd) : ws (a ++ b) = ws a ++ ws b := by unfold ws; rw [List.map_append]
theorem tr_pre {l : List Rd} {d : Beh} (h : Tr d l) : ∀ i, i < (ws l).length → ∃ nd, d ((ws l).take i) = .inr nd := fun i hi => by
  have hl : i < l.length := by unfold ws at hi; rw [List.length_map] at hi; exact hi
  rw [ws_take]
  exact ⟨_, tr_at l d i _ h (List.getElem?_eq_getElem hl)⟩
def Ev (val : Nat → V) (d : Beh) (v : V) : Prop := ∃ rs, Tr d rs ∧ Hold val rs ∧ d (ws rs) = .inl v
section
variable {val : Nat → V}
theorem Ev.ret (v : V) : Ev val (retA v) v := ⟨[], trivial, Hold.nil _, rfl⟩
theorem Ev.bind {d : Beh} {k : V → Beh} {v u : V} (h : Ev val d v) (hk : Ev val (k v) u) : Ev val (bindA d k) u := by
  obtain ⟨rs, h1, h2, h3⟩ := h
  obtain ⟨rs', g1, g2, g3⟩ := hk
  have hrun : ∀ h2, bindA d k (ws rs ++ h2) = k v h2 := fun h2 => kn_run _ _ _ _ (tr_pre h1) h3
  refine ⟨rs ++ rs', tr_of _ _ (fun i r hi => ?_), fun r hr => ?_, ?_⟩
  · by_cases hl : i < rs.length
    · rw [List.getElem?_append_left hl] at hi
      rw [List.take_append_of_le_length (Nat.le_of_lt hl)]
      refine kn_ask _ _ _ (fun j hj => ?_) (tr_at rs d i r h1 hi)
      have hj' : j < (ws rs).length := by
        unfold ws at hj ⊢
        rw [List.length_map, List.length_take] at hj
        rw [List.length_map]; omega
      have := tr_pre h1 j hj'
      rw [ws_take, List.take_take, Nat.min_eq_left (by unfold ws at hj; rw [List.length_map, List.length_take] at hj; omega), ← ws_take]
      exact this
    · have hge : rs.length ≤ i := Nat.le_of_not_lt hl
      rw [List.getElem?_append_right hge] at hi
      rw [List.take_append, List.take_of_length_le hge, ws_app, hrun]
      exact tr_at rs' _ _ r g1 hi
  · rcases List.mem_append.1 hr with hr | hr
    · exact h2 r hr
    · exact g2 r hr
  · rw [ws_app, hrun]; exact g3
theorem Ev.bindI {d : Beh} {k : V → Beh} {v u : V} (h : Ev val d v) (hv : v.k ≠ 4) (hk : Ev val (k v) u) : Ev val (bindE d k) u := by
  refine Ev.bind h ?_
  show Ev val (if v.k = 4 then retA v else k v) u
  rw [if_neg hv]; exact hk
theorem Ev.bindX {d : Beh} {k : V → Beh} {v : V} (h : Ev val d v) (hv : v.k = 4) : Ev val (bindE d k) v := by
  refine Ev.bind h ?_
  show Ev val (if v.k = 4 then retA v else k v) v
  rw [if_pos hv]; exact Ev.ret v
theorem Ev.read {c : Nat} {v : V} (h : val c = v) (hk : v.k ≠ 0) (hc : v ≠ cyc) : Ev val (rdc c) v := by
  refine ⟨[⟨⟨c, false⟩, v⟩], ⟨rfl, trivial⟩, fun r hr => ?_, rfl⟩
  rw [List.mem_singleton] at hr
  subst hr
  show v = see ⟨c, false⟩ (val c) ∧ val c ≠ cyc
  rw [h]
  refine ⟨?_, hc⟩
  unfold see
  rw [if_neg (fun g => hk g.1)]
theorem Ev.bin {op : Nat} {d e : Beh} {x y : V} (hd : Ev val d x) (he : Ev val e y) (hx : x.k ≠ 4) (hy : y.k ≠ 4) : Ev val (binA op d e) (comb op x y) := hd.bindI hx (he.bindI hy (Ev.ret _))
theorem Ev.binX {op : Nat} {d e : Beh} {x : V} (hd : Ev val d x) (hx : x.k = 4) : Ev val (binA op d e) x := hd.bindX hx
theorem i_k (n : Int) : (vI n).k ≠ 4 := show (1 : Int) ≠ 4 by decide
theorem Ev.worth {D : ByteArray → Beh} {fs : Nat → ByteArray} (hv : ∀ c, Val D fs c (val c)) {c : Nat} (h0 : fs c ≠ eB) {v : V} (h : Ev val (D (fs c)) v) : val c = v := by
  obtain ⟨rs, h1, h2, h3⟩ := h
  exact (val_of hv h0 h1 h2 h3).1
end
end Go.Proofs.YtiocnfambeochaaGreatDoor

/- Plain mathematics: the statement Known's own formulas: their tokens, what they come to, their numbers. -/
set_option linter.unusedVariables false
set_option linter.unusedSimpArgs false
namespace Go.Proofs.YtiocnfambeochaaGreatDoor

theorem is_negbr {n : Nat} {m o c : Tk} {g : List Tk} (hm : m.k = 23) (ho : o.k = 12) (hc : c.k = 13) (h : Is 0 n g) : Is 3 (n + 1) (m :: o :: (g ++ [c])) := by
  intro pre post d hd hp
  obtain ⟨f, e⟩ := is_br ho hc prs6 (form_in h) (pre ++ [m]) post d hd
  refine ⟨f + 1, ?_⟩
  have uo : unm o = o := unm_other (by rw [ho]; decide)
  have hk : kindAt (pre ++ ((m :: o :: (g ++ [c])).map unm ++ post)) pre.length = 17 := by rw [kindAt_app0]; simp [unm, hm, kindAt]
  have hmk : mark (pre ++ ((m :: o :: (g ++ [c])).map unm ++ post)) pre.length = (pre ++ [m]) ++ ((o :: (g ++ [c])).map unm ++ post) := by
    have e1 : (m :: o :: (g ++ [c])).map unm ++ post = unm m :: ((o :: (g ++ [c])).map unm ++ post) := by simp
    rw [e1, mark_app]
    have e2 : { unm m with k := 23 } = m := by cases m; simp at hm; rw [hm]; rfl
    rw [e2]; simp
  have hk2 : kindAt ((pre ++ [m]) ++ ((o :: (g ++ [c])).map unm ++ post)) (pre.length + 1) = 12 := by
    have : pre.length + 1 = (pre ++ [m]).length := by simp
    rw [this, kindAt_app0, List.map_cons, uo]; exact ho
  have hn : ngs 8 (pre ++ ((m :: o :: (g ++ [c])).map unm ++ post)) pre.length = ((pre ++ [m]) ++ ((o :: (g ++ [c])).map unm ++ post), pre.length + 1) := by
    unfold ngs
    rw [if_pos hk, hmk, ngs_stop (by rw [hk2]; decide)]
  rw [prs3, hn]
  simp only
  rw [hk2, if_neg (by decide), if_pos rfl]
  have hl : pre.length + 1 = (pre ++ [m]).length := by simp
  rw [hl, e]
  simp
  omega
structure KG (n : Nat) (g : List Tk) (d : Beh) : Prop where
  is : Is 3 n g
  good : Good g
  ck : CK g
  ne : g ≠ []
  h15 : kindAt g 0 ≠ 15
  tok : ∀ t ∈ g, okT t = true
  cg : CG 3 g d
theorem KG.fg {n : Nat} {g : List Tk} {d : Beh} (h : KG n g d) : FG n g := ⟨is_form (is_sum (is_prod h.is)), h.good, h.ck, h.ne, h.h15⟩
theorem KG.more {n m : Nat} {g : List Tk} {d : Beh} (h : KG n g d) (hm : n ≤ m) : KG m g d := ⟨h.is.more hm, h.good, h.ck, h.ne, h.h15, h.tok, h.cg⟩
theorem kg_num {u : Nat} (hu : u < 200) : KG 0 [tNum (Lib.decDigits u)] (retA (vI u)) := by
  obtain ⟨h1, h2, h3⟩ := dec_big u (by omega)
  have hf := fg_one (t := tNum (Lib.decDigits u)) (show (1 : Int) ∈ [1, 2, 3, 4, 5] by decide) h1 (fun _ => h2) (fun h => by cases h)
  have hc := cg_num (t := tNum (Lib.decDigits u)) rfl (by show valN (Lib.decDigits u) ≤ _; rw [dec_val]; omega)
  have ev : valN (tNum (Lib.decDigits u)).x = u := dec_val _
  rw [ev] at hc
  exact ⟨is_one (show (1 : Int) ∈ [1, 2, 3, 4, 5] by decide), hf.good, hf.ck, hf.ne, hf.h15, ok_cons (okt_num hu) ok_nil, hc⟩
theorem kg_cell {c : Nat} (h : c < 48) (ht : TO (unm (tCell c)).k (tCell c).x) (hc : (cn (tCell c).x).2 = true) : KG 0 [tCell c] (rdc c) :=
  ⟨is_one (show (5 : Int) ∈ [1, 2, 3, 4, 5] by decide), one_good ht (fun e => by cases e), ck_cell rfl hc (by simp [kindAt]) ck_nil, by simp, (show (5 : Int) ≠ 15 by decide), ok_cons (ok_cell c) ok_nil, cg_cell h⟩
theorem kg_br {n : Nat} {g : List Tk} {d : Beh} (h : FG n g) (ht : ∀ t ∈ g, okT t = true) (hc : CG 0 g d) : KG (n + 1) (tOpen :: (g ++ [tClose])) d :=
  ⟨br_is h, br_good h, br_ck h, by simp, (show (12 : Int) ≠ 15 by decide), ok_cons (by decide) (ok_app ht (ok_cons (by decide) ok_nil)), cg_br hc⟩
theorem kg_call {n : Nat} {g : List Tk} {d : Beh} (h : FG n g) (ht : ∀ t ∈ g, okT t = true) (hc : CG 0 g d) : KG (n + 1) (tAt :: tOpen :: (g ++ [tClose])) (atA d) ∧ KG (n + 1) (tBad :: tOpen :: (g ++ [tClose])) (badA' d) := by
  have h1 := fg_call (wd := tAt) (by decide) to_at h
  have h2 := fg_call (wd := tBad) (by decide) to_bad h
  exact ⟨⟨is_call (by decide) rfl rfl h.is, h1.good, h1.ck, h1.ne, h1.h15, ok_cons (by decide) (ok_cons (by decide) (ok_app ht (ok_cons (by decide) ok_nil))), cg_at hc⟩,
    ⟨is_call (by decide) rfl rfl h.is, h2.good, h2.ck, h2.ne, h2.h15, ok_cons (by decide) (ok_cons (by decide) (ok_app ht (ok_cons (by decide) ok_nil))), cg_bad hc⟩⟩
theorem kg_neg {n : Nat} {g : List Tk} {d : Beh} (h : FG n g) (ht : ∀ t ∈ g, okT t = true) (hc : CG 0 g d) : KG (n + 1) (tNeg :: tOpen :: (g ++ [tClose])) (negA d) :=
  have hb := kg_br h ht hc
  ⟨is_negbr rfl rfl rfl h.is, cons_good to_neg (by decide) (by decide) hb.good, ck_other (by decide) hb.ck, by simp, (show (23 : Int) ≠ 15 by decide), ok_cons (by decide) hb.tok, cg_neg hb.cg⟩
theorem kg_if {n : Nat} {a b c : List Tk} {da db dc : Beh} (ha : FG n a) (hb : FG n b) (hc : FG n c) (ta : ∀ t ∈ a, okT t = true) (tb : ∀ t ∈ b, okT t = true) (tc : ∀ t ∈ c, okT t = true) (ca : CG 0 a da) (cb : CG 0 b db) (cc : CG 0 c dc) : KG (n + 1) (tIf :: tOpen :: ((a ++ tComma :: (b ++ tComma :: c)) ++ [tClose])) (ifA da db dc) := by
  have h := fg_if ha hb hc
  exact ⟨is_if rfl rfl rfl rfl rfl ha.is hb.is hc.is, h.good, h.ck, h.ne, h.h15, ok_cons (by decide) (ok_cons (by decide) (ok_app (ok_app ta (ok_cons (by decide) (ok_app tb (ok_cons (by decide) tc)))) (ok_cons (by decide) ok_nil))), cg_if ca cb cc⟩
theorem kg_add {n j : Nat} {a b : List Tk} {da db : Beh} (hj : j ∈ [0, 1, 4]) (ha : KG n a da) (hb : KG n b db) : FG n (a ++ tOp j :: b) ∧ CG 0 (a ++ tOp j :: b) (binA (signOp (tOp j).k) da db) ∧ ∀ t ∈ a ++ tOp j :: b, okT t = true := by
  have hk : (tOp j).k ∈ [16, 17, 20] := by
    simp only [List.mem_cons, List.not_mem_nil, or_false] at hj
    rcases hj with rfl | rfl | rfl <;> decide
  have hs : (tOp j).k ∈ signs 1 := hk
  have h5 := (op_k j).2
  refine ⟨⟨is_form (is_add (is_prod ha.is) (is_sum (is_prod hb.is)) hk), two_good ha.fg hb.fg (to_op j) ?_ h5, two_ck ha.fg hb.fg ?_ ?_, by simp, two_head ha.ne ha.h15⟩, cg_plus hs ha.cg hb.cg, ok_app ha.tok (ok_cons (ok_op j) hb.tok)⟩
  all_goals (intro e; rw [e] at hk; revert hk; decide)
theorem kg_mul {n j : Nat} {a b : List Tk} {da db : Beh} (hj : j ∈ [2, 3]) (ha : KG n a da) (hb : KG n b db) : FG n (a ++ tOp j :: b) ∧ CG 0 (a ++ tOp j :: b) (binA (signOp (tOp j).k) da db) ∧ ∀ t ∈ a ++ tOp j :: b, okT t = true := by
  have hk : (tOp j).k ∈ [18, 19] := by
    simp only [List.mem_cons, List.not_mem_nil, or_false] at hj
    rcases hj with rfl | rfl <;> decide
  have hs : (tOp j).k ∈ signs 2 := hk
  have h5 := (op_k j).2
  refine ⟨⟨is_form (is_sum (is_mul ha.is (is_prod hb.is) hk)), two_good ha.fg hb.fg (to_op j) ?_ h5, two_ck ha.fg hb.fg ?_ ?_, by simp, two_head ha.ne ha.h15⟩, cg_lift (by omega) (cg_lift (by omega) (cg_two (lv := 2) (by omega) hs ha.cg hb.cg)), ok_app ha.tok (ok_cons (ok_op j) hb.tok)⟩
  all_goals (intro e; rw [e] at hk; revert hk; decide)
theorem kg_less {n : Nat} {a b : List Tk} {da db : Beh} (ha : KG n a da) (hb : KG n b db) : FG n (a ++ tCmp 0 :: b) ∧ CG 0 (a ++ tCmp 0 :: b) (binA 11 da db) ∧ ∀ t ∈ a ++ tCmp 0 :: b, okT t = true :=
  ⟨fg_cmp ha.fg hb.fg (is_sum (is_prod ha.is)) (is_sum (is_prod hb.is)), cg_less (o := tCmp 0) (by decide) ha.cg hb.cg, ok_app ha.tok (ok_cons (ok_cmp 0) hb.tok)⟩
theorem KG.z {n : Nat} {g : List Tk} {d : Beh} (h : KG n g d) : CG 0 g d := cg_form h.cg
theorem nmT_ok : ∀ n, n < 12 → (nmT n).all (fun a => pbB (a.toNat : Int)) = true := by decide
theorem kg_txt {n : Nat} (h : n < 12) : KG 0 [tText (nmT n)] (retA (vT ⟨(nmT n).toArray⟩)) := by
  have hp := List.all_eq_true.1 (nmT_ok n h)
  have hf := fg_text (nmT n) hp (show 2 ≤ 20 by decide)
  have ht : okT (tText (nmT n)) = true := by
    have : ∀ n, n < 12 → okT (tText (nmT n)) = true := by decide
    exact this n h
  exact ⟨is_one (show (2 : Int) ∈ [1, 2, 3, 4, 5] by decide), hf.good, hf.ck, hf.ne, hf.h15, ok_cons ht ok_nil, cg_text (nmT n) (show 2 ≤ 20 by decide)⟩
theorem kg_q : KG 0 [tText [81]] (retA (vT ⟨#[81]⟩)) := by
  have hf := fg_text [81] (by decide) (by decide)
  exact ⟨is_one (show (2 : Int) ∈ [1, 2, 3, 4, 5] by decide), hf.good, hf.ck, hf.ne, hf.h15, ok_cons (by decide) ok_nil, cg_text [81] (by decide)⟩
theorem kg_sum : KG 1 [tSum, tOpen, tCell 0, tColon, tCell 8, tClose] (sumA (rangeL 0 8) (vI 0)) := by
  have hf := ranges_ok (wd := tSum) (a := tCell 0) (b := tCell 8) (by decide) to_sum (cells12 0 (by omega)).1 (cells12 8 (by omega)).1 rfl rfl (by decide)
  exact ⟨is_range (by decide) rfl rfl rfl rfl rfl, hf.good, hf.ck, hf.ne, hf.h15, by rw [← List.all_eq_true]; kernel_rfl, cg_rsum (by omega) (by omega)⟩
theorem kg_cnt : KG 1 [tCount, tOpen, tCell 1, tColon, tCell 10, tClose] (cntA (rangeL 1 10) (vI 0)) := by
  have hf := ranges_ok (wd := tCount) (a := tCell 1) (b := tCell 10) (by decide) to_count (cells12 1 (by omega)).1 (cells12 10 (by omega)).1 rfl rfl (by decide)
  exact ⟨is_range (by decide) rfl rfl rfl rfl rfl, hf.good, hf.ck, hf.ne, hf.h15, by rw [← List.all_eq_true]; kernel_rfl, cg_rcnt (by omega) (by omega)⟩
structure Kn where
  g : List Tk
  d : Beh
  n : Int
def dn' (n : Nat) : List Tk := [tNum (Lib.decDigits n)]
def knG : Nat → List UInt8 → Kn × List UInt8
  | 0, fd =>
    if (nx 4 (nx 12 fd).2).1 = 0 then (⟨dn' (nx 12 fd).1, retA (vI (nx 12 fd).1), (nx 12 fd).1⟩, (nx 4 (nx 12 fd).2).2)
    else if (nx 4 (nx 12 fd).2).1 = 1 then (⟨tAt :: tOpen :: ([tText (nmT (nx 12 fd).1)] ++ [tClose]), atA (retA (vT ⟨(nmT (nx 12 fd).1).toArray⟩)), (nx 12 fd).1⟩, (nx 4 (nx 12 fd).2).2)
    else (⟨[tCell (nx 12 fd).1], rdc (nx 12 fd).1, (nx 12 fd).1⟩, (nx 4 (nx 12 fd).2).2)
  | deep + 1, fd =>
    let a := knG deep fd
    let s := nx 8 a.2
    if s.1 = 0 then
      let b := knG deep s.2
      (⟨tOpen :: ((a.1.g ++ tOp 1 :: b.1.g) ++ [tClose]), binA 6 a.1.d b.1.d, a.1.n - b.1.n⟩, b.2)
    else if s.1 = 1 then
      let b := knG deep s.2
      (⟨tOpen :: ((a.1.g ++ tOp 2 :: b.1.g) ++ [tClose]), binA 7 a.1.d b.1.d, a.1.n * b.1.n⟩, b.2)
    else if s.1 = 2 then
      (⟨tOpen :: (((tOpen :: (a.1.g ++ [tClose])) ++ tOp 3 :: dn' (1 + (nx 9 s.2).1)) ++ [tClose]), binA 8 a.1.d (retA (vI (1 + (nx 9 s.2).1 : Nat))), a.1.n.tdiv (1 + (nx 9 s.2).1 : Nat)⟩, (nx 9 s.2).2)
    else if s.1 = 3 then
      (if a.1.n < ((nx 12 s.2).1 : Int) then
        ⟨tIf :: tOpen :: (((a.1.g ++ tCmp 0 :: dn' (nx 12 s.2).1) ++ tComma :: (dn' 100 ++ tComma :: (tAt :: tOpen :: ([tText [81]] ++ [tClose])))) ++ [tClose]), ifA (binA 11 a.1.d (retA (vI (nx 12 s.2).1))) (retA (vI (100 : Nat))) (atA (retA (vT ⟨#[81]⟩))), 100⟩
      else
        ⟨tIf :: tOpen :: (((a.1.g ++ tCmp 0 :: dn' (nx 12 s.2).1) ++ tComma :: ((dn' 1 ++ tOp 3 :: dn' 0) ++ tComma :: dn' 200)) ++ [tClose]), ifA (binA 11 a.1.d (retA (vI (nx 12 s.2).1))) (binA 8 (retA (vI (1 : Nat))) (retA (vI (0 : Nat)))) (retA (vI (200 : Nat))), 200⟩, (nx 12 s.2).2)
    else if s.1 = 4 then (⟨tOpen :: (([tSum, tOpen, tCell 0, tColon, tCell 8, tClose] ++ tOp 0 :: a.1.g) ++ [tClose]), binA 5 (sumA (rangeL 0 8) (vI 0)) a.1.d, 24 + a.1.n⟩, s.2)
    else if s.1 = 5 then (⟨tIf :: tOpen :: (((tBad :: tOpen :: (a.1.g ++ [tClose])) ++ tComma :: (dn' 1 ++ tComma :: [tCount, tOpen, tCell 1, tColon, tCell 10, tClose])) ++ [tClose]), ifA (badA' a.1.d) (retA (vI (1 : Nat))) (cntA (rangeL 1 10) (vI 0)), 8⟩, s.2)
    else if s.1 = 6 then (⟨tNeg :: tOpen :: (a.1.g ++ [tClose]), negA a.1.d, -a.1.n⟩, s.2)
    else
      let b := knG deep s.2
      (⟨tOpen :: ((a.1.g ++ tOp 0 :: b.1.g) ++ [tClose]), binA 5 a.1.d b.1.d, a.1.n + b.1.n⟩, b.2)
theorem kg_200 : KG 0 (dn' 200) (retA (vI (200 : Nat))) := by
  obtain ⟨h1, h2, h3⟩ := dec_big 200 (by omega)
  have hf := fg_one (t := tNum (Lib.decDigits 200)) (show (1 : Int) ∈ [1, 2, 3, 4, 5] by decide) h1 (fun _ => h2) (fun h => by cases h)
  have hc := cg_num (t := tNum (Lib.decDigits 200)) rfl (by show valN (Lib.decDigits 200) ≤ _; rw [dec_val]; omega)
  have ev : valN (tNum (Lib.decDigits 200)).x = 200 := dec_val _
  rw [ev] at hc
  have ho : okT (tNum (Lib.decDigits 200)) = true := by unfold okT; rw [h3]; rfl
  exact ⟨is_one (show (1 : Int) ∈ [1, 2, 3, 4, 5] by decide), hf.good, hf.ck, hf.ne, hf.h15, ok_cons ho ok_nil, hc⟩
theorem kn_kg : ∀ (deep : Nat) (fd : List UInt8), KG (1 + 2 * deep) (knG deep fd).1.g (knG deep fd).1.d
  | 0, fd => by
    have hn := nx_lt 12 (by omega) fd
    unfold knG
    split
    · exact (kg_num (by omega)).more (by omega)
    · split
      · have h := kg_txt hn
        exact (kg_call h.fg h.tok h.z).1
      · exact (kg_cell (by omega) (cells12 _ hn).1 (cells12 _ hn).2.1).more (by omega)
  | deep + 1, fd => by
    have ia := kn_kg deep fd
    have ib := kn_kg deep
    unfold knG
    dsimp only
    split
    · obtain ⟨h1, h2, h3⟩ := kg_add (j := 1) (by decide) ia (ib (nx 8 (knG deep fd).2).2)
      exact (kg_br h1 h3 h2).more (by omega)
    · split
      · obtain ⟨h1, h2, h3⟩ := kg_mul (j := 2) (by decide) ia (ib (nx 8 (knG deep fd).2).2)
        exact (kg_br h1 h3 h2).more (by omega)
      · split
        · have hn := nx_lt 9 (by omega) (nx 8 (knG deep fd).2).2
          obtain ⟨h1, h2, h3⟩ := kg_mul (j := 3) (by decide) (kg_br ia.fg ia.tok ia.z) ((kg_num (u := 1 + (nx 9 (nx 8 (knG deep fd).2).2).1) (by omega)).more (Nat.zero_le _))
          exact (kg_br h1 h3 h2).more (by omega)
        · split
          · have hn := nx_lt 12 (by omega) (nx 8 (knG deep fd).2).2
            obtain ⟨h1, h2, h3⟩ := kg_less ia ((kg_num (u := (nx 12 (nx 8 (knG deep fd).2).2).1) (by omega)).more (Nat.zero_le (1 + 2 * deep)))
            split
            · have h100 := (kg_num (u := 100) (by omega)).more (Nat.zero_le (1 + 2 * deep))
              have hq := ((kg_call kg_q.fg kg_q.tok kg_q.z).1).more (show 0 + 1 ≤ 1 + 2 * deep by omega)
              exact (kg_if h1 h100.fg hq.fg h3 h100.tok hq.tok h2 h100.z hq.z).more (by omega)
            · obtain ⟨d1, d2, d3⟩ := kg_mul (j := 3) (by decide) ((kg_num (u := 1) (by omega)).more (Nat.zero_le (1 + 2 * deep))) ((kg_num (u := 0) (by omega)).more (Nat.zero_le (1 + 2 * deep)))
              have h200 := kg_200.more (Nat.zero_le (1 + 2 * deep))
              exact (kg_if h1 d1 h200.fg h3 d3 h200.tok h2 d2 h200.z).more (by omega)
          · split
            · obtain ⟨h1, h2, h3⟩ := kg_add (j := 0) (by decide) (kg_sum.more (show 1 ≤ 1 + 2 * deep by omega)) ia
              exact (kg_br h1 h3 h2).more (by omega)
            · split
              · have hb := (kg_call ia.fg ia.tok ia.z).2
                have h1 := (kg_num (u := 1) (by omega)).more (Nat.zero_le (1 + 2 * deep + 1))
                have hc := kg_cnt.more (show 1 ≤ 1 + 2 * deep + 1 by omega)
                exact (kg_if hb.fg h1.fg hc.fg hb.tok h1.tok hc.tok hb.z h1.z hc.z).more (by omega)
              · split
                · exact (kg_neg ia.fg ia.tok ia.z).more (by omega)
                · obtain ⟨h1, h2, h3⟩ := kg_add (j := 0) (by decide) ia (ib (nx 8 (knG deep fd).2).2)
                  exact (kg_br h1 h3 h2).more (by omega)
end Go.Proofs.YtiocnfambeochaaGreatDoor
