/- Texts put together. -/
import Derived.Test.YtiocnfambeochaaGreatDoorVd
/- Plain mathematics: texts of known making: tokens spelt out; numbers of any size. -/
set_option linter.unusedVariables false
set_option linter.unusedSimpArgs false
namespace Go.Proofs.YtiocnfambeochaaGreatDoor

theorem plain_toks (s : List UInt8) (g : List Tk) (hs : SC s (kxs g)) (hg : Is 0 8 g) (hc : chk g.length g = none) (hl : s.length ≤ 120) :
    (rd s).e = 0 ∧ plT s = g.flatMap ptk ∧ (rdA s).ts.map kxT = g.map kxT := by
  obtain ⟨ts, e1, e2⟩ := hs 0 s.length (Nat.le_refl _)
  have hsim : Sim (g.map unm) ts := by
    unfold Sim
    rw [List.map_map]
    have : ts.map kx = kxs g := e2
    rw [this]
    rfl
  obtain ⟨f, ef⟩ := hg [] [] 0 (by omega) (by simp [kindAt, goesOn])
  simp only [List.nil_append, List.append_nil, List.length_nil, Nat.zero_add] at ef
  have h1 := prs_sim f 0 (g.map unm) ts 0 0 hsim
  rw [ef] at h1
  match hq : prs f 0 ts 0 0, h1 with
  | none, h1 => exact absurd h1 (by simp [SimR])
  | some q, ⟨h1, h2, _, h4⟩ =>
    obtain ⟨r, er, _⟩ := prs_fuel (8 * ts.length + 6) 0 ts 0 0 (by omega) (by have : rk 0 = 5 := rfl; omega)
    have a1 := prs_le (Nat.le_max_left f (8 * ts.length + 6)) hq
    have a2 := prs_le (Nat.le_max_right f (8 * ts.length + 6)) er
    rw [a1, Option.some.injEq] at a2
    subst a2
    have hlen : g.length = q.ts.length := h4.len
    have hchk : chk q.ts.length q.ts = none := by rw [← hlen]; exact chk_sim _ _ _ h4 hc
    have hrd : rdA s = ⟨0, 0, q.ts⟩ := by
      rw [rdA, e1]
      simp only
      rw [er]
      simp only
      unfold rdP
      rw [if_neg (by rw [← h1, ← h2]; simp [hlen]), hchk]
    have hrd2 : rd s = ⟨0, 0, q.ts⟩ := by
      unfold rd
      rw [if_neg (by omega), hrd]
    refine ⟨by rw [hrd2], ?_, ?_⟩
    · unfold plT
      rw [hrd2, if_pos rfl]
      exact (flat_sim h4).symm
    · rw [hrd]
      have : g.map kx = q.ts.map kx := h4
      exact this.symm
theorem flat_ne {g : List Tk} (h : Good g) (hne : g ≠ []) : (g.flatMap ptk).isEmpty = false := by
  cases g with
  | nil => exact absurd rfl hne
  | cons t r =>
    obtain ⟨c, x, hx, _⟩ := h.1.head
    obtain ⟨a, b, _, e⟩ := ptk_parts t h.2.1
    rw [List.flatMap_cons, e, hx]
    cases a with
    | zero => rfl
    | succ a => rfl
/-- A text that is spelt out of tokens, which are a formula, comes to what the tokens come to. -/
theorem txt_gen {g : List Tk} {d : Beh} {n : Nat} (hg : FG n g) (hn : n ≤ 8) (hb : ∀ t ∈ g, tokB t = true) (hz : g.map np = g) (hl : (g.flatMap ptk).length ≤ 120) (hcg : CG 0 g d) : TxtOK ⟨(g.flatMap ptk).toArray⟩ d := by
  obtain ⟨h1, h2, h3⟩ := plain_toks (g.flatMap ptk) g (sc_plain g hg.good) (hg.is.more hn) (ck_end hg.ck) hl
  refine txt_of (g := g) (flat_ne hg.good hg.ne) h1 h2 ?_ ?_ hcg
  · rw [h3, ← np_kx]; exact hz
  · rw [List.all_eq_true]
    intro t ht
    have hm : kxT t ∈ g.map kxT := by rw [← h3]; exact List.mem_map.2 ⟨t, ht, rfl⟩
    obtain ⟨u, hu, e⟩ := List.mem_map.1 hm
    have e1 : u.k = t.k := congrArg Prod.fst e
    have e2 : u.x = t.x := congrArg Prod.snd e
    have := hb u hu
    unfold tokB at this ⊢
    rw [e1, e2] at this
    exact this
theorem dec_dig (u : Nat) : ∀ a ∈ Lib.decDigits u, dgB (a.toNat : Int) = true := by
  induction u using Nat.strongRecOn with
  | _ u ih =>
    rw [Lib.decDigits]
    by_cases h : u < 10
    · rw [dif_pos h]
      intro a ha
      rw [List.mem_singleton] at ha
      rw [ha]; exact dg_digit u h
    · rw [dif_neg h]
      intro a ha
      rcases List.mem_append.1 ha with ha | ha
      · exact ih (u / 10) (by omega) a ha
      · rw [List.mem_singleton] at ha
        rw [ha]; exact dg_digit _ (by omega)
theorem val_app (l : List UInt8) (c : UInt8) : valN (l ++ [c]) = 10 * valN l + (c.toNat - 48) := by
  unfold valN
  rw [List.foldl_append]
  rfl
theorem dec_val (u : Nat) : valN (Lib.decDigits u) = u := by
  induction u using Nat.strongRecOn with
  | _ u ih =>
    rw [Lib.decDigits]
    by_cases h : u < 10
    · rw [dif_pos h]
      show 10 * 0 + ((UInt8.ofNat (48 + u)).toNat - 48) = u
      rw [ofNat_digit u h]; omega
    · rw [dif_neg h, val_app, ih (u / 10) (by omega), ofNat_digit _ (by omega)]; omega
theorem dec_len : ∀ (k u : Nat), u < 10 ^ (k + 1) → (Lib.decDigits u).length ≤ k + 1
  | 0, u, h => by
    rw [Lib.decDigits, dif_pos (by omega)]; simp
  | k + 1, u, h => by
    rw [Lib.decDigits]
    by_cases h1 : u < 10
    · rw [dif_pos h1]; simp
    · rw [dif_neg h1, List.length_append]
      have := dec_len k (u / 10) (by rw [Nat.pow_succ] at h; omega)
      simp only [List.length_singleton]
      omega
theorem dec_head (u : Nat) : ∃ c r, Lib.decDigits u = c :: r ∧ (1 ≤ u → (c == 48) = false) ∧ (u = 0 → r = []) := by
  induction u using Nat.strongRecOn with
  | _ u ih =>
    rw [Lib.decDigits]
    by_cases h : u < 10
    · rw [dif_pos h]
      exact ⟨_, [], rfl, fun h1 => ne48 u h (by omega), fun _ => rfl⟩
    · rw [dif_neg h]
      obtain ⟨c, r, e, h1, _⟩ := ih (u / 10) (by omega)
      rw [e]
      exact ⟨c, _, rfl, fun _ => h1 (by omega), fun h0 => absurd h0 (by omega)⟩
theorem dec_big (u : Nat) (h : u ≤ 9223372036854775807) : TO (unm (tNum (Lib.decDigits u))).k (tNum (Lib.decDigits u)).x ∧ nzT (Lib.decDigits u) = Lib.decDigits u ∧ tokB (tNum (Lib.decDigits u)) = true := by
  obtain ⟨c, r, e, h1, h2⟩ := dec_head u
  have hd := dec_dig u
  have hv := dec_val u
  have hl := dec_len 18 u (by omega)
  rw [e] at hd hv hl ⊢
  have hl : r.length ≤ 18 := by simpa using hl
  refine ⟨to_num c r hd hl (by omega), ?_, ?_⟩
  · unfold nzT
    rw [List.dropWhile_cons]
    cases hc : (c == 48)
    · simp
    · by_cases hu : u = 0
      · rw [h2 hu]
        have : c = 48 := by simpa using hc
        simp [this]
      · have := h1 (by omega); rw [hc] at this; cases this
  · unfold tokB tNum tk
    have h3 : (c :: r).all (fun c => dgB (c.toNat : Int)) = true := List.all_eq_true.2 hd
    simp only [h3, List.length_cons]
    simp
    omega
/-- A number as a formula. -/
def dLit (a : Int) : Beh := if a < 0 then negA (retA (vI (a.natAbs : Nat))) else retA (vI (a.toNat : Nat))
theorem txt_lit (a : Int) (h : -9223372036854775807 ≤ a ∧ a ≤ 9223372036854775807) : TxtOK ⟨(Lib.itoa a).toArray⟩ (dLit a) := by
  unfold Lib.itoa dLit
  by_cases hn : a < 0
  · rw [if_pos hn, if_pos hn]
    obtain ⟨h1, h2, h3⟩ := dec_big a.natAbs (by omega)
    have hg : FG 0 [tNeg, tNum (Lib.decDigits a.natAbs)] := {
      is := is_form (is_sum (is_prod (is_neg rfl (show (1 : Int) ∈ [1, 2, 3, 4, 5] by decide))))
      good := cons_good to_neg (by decide) (by decide) (one_good h1 (fun _ => h2))
      ck := ck_other (by decide) (ck_other (show (1 : Int) ≠ 5 by decide) ck_nil)
      ne := by simp
      h15 := show (23 : Int) ≠ 15 by decide }
    have e : [tNeg, tNum (Lib.decDigits a.natAbs)].flatMap ptk = 45 :: Lib.decDigits a.natAbs := by
      show 45 :: (nzT (Lib.decDigits a.natAbs) ++ []) = _
      rw [h2, List.append_nil]
    have hl := dec_len 18 a.natAbs (by omega)
    have hc := cg_num (t := tNum (Lib.decDigits a.natAbs)) rfl (by show valN (Lib.decDigits a.natAbs) ≤ _; rw [dec_val]; omega)
    have ev : valN (tNum (Lib.decDigits a.natAbs)).x = a.natAbs := dec_val _
    rw [ev] at hc
    have := txt_gen hg (by omega) (fun t ht => by
      simp only [List.mem_cons, List.not_mem_nil, or_false] at ht
      rcases ht with rfl | rfl
      · decide
      · exact h3) rfl (by rw [e]; show (Lib.decDigits a.natAbs).length + 1 ≤ 120; omega) (cg_form (cg_neg hc))
    rw [e] at this
    exact this
  · rw [if_neg hn, if_neg hn]
    obtain ⟨h1, h2, h3⟩ := dec_big a.toNat (by omega)
    have e : [tNum (Lib.decDigits a.toNat)].flatMap ptk = Lib.decDigits a.toNat := by
      show nzT (Lib.decDigits a.toNat) ++ [] = _
      rw [h2, List.append_nil]
    have hl := dec_len 18 a.toNat (by omega)
    have hc := cg_num (t := tNum (Lib.decDigits a.toNat)) rfl (by show valN (Lib.decDigits a.toNat) ≤ _; rw [dec_val]; omega)
    have ev : valN (tNum (Lib.decDigits a.toNat)).x = a.toNat := dec_val _
    rw [ev] at hc
    have := txt_gen (fg_one (show (1 : Int) ∈ [1, 2, 3, 4, 5] by decide) h1 (fun _ => h2) (fun h => by cases h)) (by omega) (fun t ht => by
      rw [List.mem_singleton] at ht
      rw [ht]; exact h3) rfl (by rw [e]; omega) (cg_form hc)
    rw [e] at this
    exact this
theorem lit_val {a : Int} (h : -9223372036854775807 ≤ a ∧ a ≤ 9223372036854775807) : bindA (dLit a) retA [] = .inl (vI a) := by
  unfold dLit
  by_cases hn : a < 0
  · rw [if_pos hn]
    show Sum.inl (vNeg (vI (a.natAbs : Nat))) = _
    have e : vNeg (vI (a.natAbs : Nat)) = vI a := by
      unfold vNeg vSub
      rw [if_pos (by unfold vI; exact ⟨rfl, rfl⟩)]
      show vNum (0 - (a.natAbs : Int)) = _
      unfold vNum
      rw [if_pos (by unfold inR; exact decide_eq_true (by omega)), show 0 - (a.natAbs : Int) = a by omega]
    rw [e]
  · rw [if_neg hn]
    show Sum.inl (vI (a.toNat : Nat)) = _
    rw [show ((a.toNat : Nat) : Int) = a by omega]
end Go.Proofs.YtiocnfambeochaaGreatDoor

/- Plain mathematics: what comes of the statement Choice. -/
set_option linter.unusedVariables false
set_option linter.unusedSimpArgs false
namespace Go.Proofs.YtiocnfambeochaaGreatDoor

section
variable {E : Env} {left : Bool} {n : Nat} {o : ByteArray} {val : Nat → V}
end
end Go.Proofs.YtiocnfambeochaaGreatDoor

/- Plain mathematics: which cells are begun in the statement Choice. -/
set_option linter.unusedVariables false
set_option linter.unusedSimpArgs false
namespace Go.Proofs.YtiocnfambeochaaGreatDoor

/-- What was read last time is what the formula reads by these values. -/
theorem KInv.rs {E : Env} {fs : Nat → ByteArray} {k : Kp} (hk : KInv E fs k) {c : Nat} (h0 : fs c ≠ eB) {rs : List Rd} (ht : Tr (E.D (fs c)) rs) {v : V} (hv : E.D (fs c) (ws rs) = .inl v) (hh : Hold (fun c => (k.last c).v) rs) (hc : (k.last c).v ≠ cyc) : (k.last c).rs = rs := by
  obtain ⟨⟨_, g1, g2, _⟩, g4⟩ := hk.good c h0 hc
  rw [hk.f c] at g1 g2
  refine (tr_same _ _ _ _ _ g1 ht g2 hv fun r hr r' hr' e => ?_).1
  rw [(g4 r hr).1, (hh r' hr').1, e]
section
variable {E : Env} {left : Bool} {n : Nat} {k1 k2 : Kp} {o2 w2 : Nat} {bg2 : List Nat}
end
end Go.Proofs.YtiocnfambeochaaGreatDoor

/- Plain mathematics: what the store keeps; a Work that begins all of some cells, and one that recalls all. -/
set_option linter.unusedVariables false
set_option linter.unusedSimpArgs false
namespace Go.Proofs.YtiocnfambeochaaGreatDoor

/-- These answers, the newest first, are what was added last. -/
structure Rec (s : Sto) (l : List Ans) : Prop where
  p : l.length ≤ s.places
  n : l.length ≤ s.size
  g : ∀ j, j < l.length → s.kept[(s.next + s.places - 1 - j) % s.places]? = l[j]?
theorem mod_back {x p : Nat} (h1 : p ≤ x) (h2 : x < 2 * p) : x % p = x - p := by
  rw [Nat.mod_eq_sub_mod h1, Nat.mod_eq_of_lt (by omega)]
theorem Rec.add {s : Sto} {l : List Ans} (hs : SW s) (h : Rec s l) (hl : l.length + 1 ≤ s.places) (a : Ans) : Rec (s.add a) (a :: l) := by
  have hp : s.places ≠ 0 := by omega
  have hnx := hs.next hp
  have e : s.add a = ⟨s.places, min (s.size + 1) s.places, (s.next + 1) % s.places, s.kept.set s.next a⟩ := by unfold Sto.add; rw [if_neg hp]
  rw [e]
  have hn := h.n
  refine ⟨hl, by show (l.length + 1) ≤ min (s.size + 1) s.places; omega, fun j hj => ?_⟩
  show (s.kept.set s.next a)[((s.next + 1) % s.places + s.places - 1 - j) % s.places]? = (a :: l)[j]?
  have h64 := hs.len
  have hpl := hs.places
  cases j with
  | zero =>
    have e1 : ((s.next + 1) % s.places + s.places - 1 - 0) % s.places = s.next := by
      by_cases hw : s.next + 1 = s.places
      · rw [hw, Nat.mod_self, Nat.mod_eq_of_lt (by omega)]; omega
      · rw [Nat.mod_eq_of_lt (show s.next + 1 < s.places by omega), mod_back (by omega) (by omega)]; omega
    rw [e1, List.getElem?_set_self (by omega)]
    rfl
  | succ j =>
    have hj' : j < l.length := by have : j + 1 < l.length + 1 := hj; omega
    have e1 : ((s.next + 1) % s.places + s.places - 1 - (j + 1)) % s.places = (s.next + s.places - 1 - j) % s.places := by
      by_cases hw : s.next + 1 = s.places
      · rw [hw, Nat.mod_self, Nat.mod_eq_of_lt (show 0 + s.places - 1 - (j + 1) < s.places by omega), mod_back (by omega) (by omega)]; omega
      · rw [Nat.mod_eq_of_lt (show s.next + 1 < s.places by omega)]
        congr 1
        omega
    have e2 : (s.next + s.places - 1 - j) % s.places ≠ s.next := by
      by_cases hw : j + 1 ≤ s.next
      · rw [mod_back (by omega) (by omega)]; omega
      · rw [Nat.mod_eq_of_lt (by omega)]; omega
    rw [e1, List.getElem?_set_ne (fun h => e2 h.symm), h.g j hj']
    rfl
theorem Rec.mem {s : Sto} {l : List Ans} (hs : SW s) (h : Rec s l) {a : Ans} (ha : a ∈ l) : a ∈ s.has := by
  obtain ⟨j, hj, e⟩ := List.getElem_of_mem ha
  have hn := h.n
  have hp := h.p
  have hg := h.g j hj
  rw [List.getElem?_eq_getElem hj, e] at hg
  have hnx := hs.next (by omega)
  have hsz := hs.size
  have hop := hs.open'
  unfold Sto.has
  have hq : (s.next + s.places - 1 - j) % s.places < s.size := by
    by_cases hw : s.size < s.places
    · have := hop hw
      rw [mod_back (by omega) (by omega)]; omega
    · have := Nat.mod_lt (s.next + s.places - 1 - j) (show 0 < s.places by omega)
      omega
  refine List.mem_of_getElem? (i := (s.next + s.places - 1 - j) % s.places) ?_
  rw [List.getElem?_take_of_lt hq]; exact hg
theorem add_places (s : Sto) (a : Ans) : (s.add a).places = s.places := by
  unfold Sto.add
  split <;> rfl
theorem fold_places : ∀ (m : List Ans) (s : Sto), (m.foldl Sto.add s).places = s.places
  | [], _ => rfl
  | a :: m, s => by rw [List.foldl_cons, fold_places m, add_places]
theorem nodup_le : ∀ (l m : List Nat), l.Nodup → (∀ x ∈ l, x ∈ m) → l.length ≤ m.length
  | [], _, _, _ => Nat.zero_le _
  | x :: l, m, h, hs => by
    have hx := List.nodup_cons.1 h
    have hm : x ∈ m := hs x List.mem_cons_self
    have := nodup_le l (m.erase x) hx.2 (fun y hy => by
      have hne : y ≠ x := fun e => hx.1 (e ▸ hy)
      exact (List.mem_erase_of_ne hne).2 (hs y (List.mem_cons_of_mem _ hy)))
    rw [List.length_erase_of_mem hm] at this
    have hpos : 0 < m.length := List.length_pos_of_mem hm
    show l.length + 1 ≤ m.length
    omega
section
variable {E : Env} {fl fs : Nat → ByteArray} {k k' : Kp} {order way : Nat} {bg : List Nat}
theorem WorkP.places (hE : EnvOK E) (hk : KInv E fl k) (hf : FsT fs) (ho : order < 3) (h : WorkP E k fs order way k' bg) : k'.store.places = k.store.places := by
  by_cases hw : workedP k fs
  · rcases h with ⟨_, rfl, _⟩ | ⟨hn, _⟩
    · rfl
    · exact absurd hw hn
  · obtain ⟨mk, r', cs, _, hi, _, _, e, _⟩ := (h.done hE hk hf ho hw (fun _ _ => False) (fun val mk _ _ r cs _ c a hh => absurd hh (by simp))).ex
    rw [e, hi.sto, fold_places]
/-- Of these cells nothing is known that holds: they are begun, and what comes of them is kept. -/
theorem WorkP.fresh (hE : EnvOK E) (hk : KInv E fl k) (hf : FsT fs) (ho : order < 3) (h : WorkP E k fs order way k' bg) (hw : ¬ workedP k fs) (hway : way ≠ 0) {C : List Nat} (hC0 : ∀ c ∈ C, fs c ≠ eB) (hC1 : ∀ c ∈ C, ∀ i, fs i = fs c → i = c) (hbg : ∀ c ∈ bg, c ∈ C)
    (hn : ∀ c ∈ C, ∀ a, a.f = fs c → (a = k.last c ∨ a ∈ k.store.has) → ¬ Hold (fun c => (k'.last c).v) a.rs) (hc : ∀ c ∈ C, (k'.last c).v ≠ cyc) :
    ∃ l : List Ans, l.length ≤ C.length ∧ k'.store = l.foldl Sto.add k.store ∧ (∀ c ∈ C, k'.last c ∈ l) ∧ ∀ a ∈ l, ∃ c ∈ C, a = k'.last c := by
  obtain ⟨mk, r', cs, hm, hi, h3, e1, e2, rfl⟩ := (h.done hE hk hf ho hw (fun _ _ => False) (fun val mk _ _ r cs _ c a hh => absurd hh (by simp))).ex
  have ef : r'.fs = fs := hi.con.1
  have el : r'.last = k.last := hi.con.2.1
  have el' : ∀ c, k'.last c = (r'.tk c).an := fun c => by rw [e1]
  have hcs : ∀ c ∈ C, c ∈ cs := fun c hcc => by
    rcases hi.done c (h3 c) (by rw [ef]; exact hC0 c hcc) with ⟨g, _⟩ | ⟨g, _⟩ | ⟨a, a1, a2, a3⟩
    · exact absurd g (hc c hcc)
    · exact absurd g hway
    · rw [ef] at a1
      rcases a3 with ⟨_, b⟩ | b | ⟨c', b1, b2⟩
      · rw [el] at b; exact absurd a2 (hn c hcc a a1 (.inl b))
      · exact absurd a2 (hn c hcc a a1 (.inr b))
      · obtain ⟨b3, b4⟩ := hi.csOK c' b1
        have hf' : (r'.tk c').an.f = r'.fs c' := (hi.sett c' b3).f
        rw [ef, ← b2, a1] at hf'
        rw [← hC1 c hcc c' hf'.symm]; exact b1
  refine ⟨cs.map fun c => (r'.tk c).an, ?_, ?_, ?_, ?_⟩
  · rw [List.length_map]
    exact nodup_le cs C hi.nodup fun c hcc => hbg c (hi.csOK c hcc).2
  · rw [e2, hi.sto]
  · intro c hcc
    rw [el']
    exact List.mem_map.2 ⟨c, hcs c hcc, rfl⟩
  · intro a ha
    obtain ⟨c, hcc, rfl⟩ := List.mem_map.1 ha
    exact ⟨c, hbg c (hi.csOK c hcc).2, (el' c).symm⟩
end
end Go.Proofs.YtiocnfambeochaaGreatDoor

/- Plain mathematics: what comes of the statement Recalled. -/
set_option linter.unusedVariables false
set_option linter.unusedSimpArgs false
namespace Go.Proofs.YtiocnfambeochaaGreatDoor

theorem bindH_run {k : V → Beh} : ∀ (h1 h2 : List V) (d : Beh) (v : V), (∀ i, i < h1.length → ∃ nd, d (h1.take i) = .inr nd) → d h1 = .inl v → bindH k (h1 ++ h2) d = k v h2
  | [], h2, d, v, _, hv => by
    cases h2 with
    | nil => show bindH k [] d = _; unfold bindH; rw [hv]
    | cons x l => show bindH k (x :: l) d = _; unfold bindH; rw [hv]
  | x :: h1, h2, d, v, hp, hv => by
    obtain ⟨nd, h0⟩ := hp 0 (Nat.zero_lt_succ _)
    have h0 : d [] = .inr nd := h0
    show bindH k (x :: (h1 ++ h2)) d = _
    unfold bindH
    rw [h0]
    exact bindH_run h1 h2 _ v (fun i hi => hp (i + 1) (Nat.succ_lt_succ hi)) hv
theorem bindA_run {k : V → Beh} {d : Beh} {h : List V} {v : V} (hp : ∀ i, i < h.length → ∃ nd, d (h.take i) = .inr nd) (hv : d h = .inl v) : bindA d k h = k v [] := by
  have := bindH_run (k := k) h [] d v hp hv
  rw [List.append_nil] at this
  exact this
theorem svn {j : Nat} (h : j < 7) : j = 0 ∨ j = 1 ∨ j = 2 ∨ j = 3 ∨ j = 4 ∨ j = 5 ∨ j = 6 := by omega
section
variable {n v : Nat} {t : ByteArray}
variable {E : Env} {val : Nat → V}
theorem i_ne (n : Int) : vI n ≠ cyc := by unfold cyc vE vI; simp
end
end Go.Proofs.YtiocnfambeochaaGreatDoor

/- Plain mathematics: what comes of the statement Cutoff. -/
set_option linter.unusedVariables false
set_option linter.unusedSimpArgs false
namespace Go.Proofs.YtiocnfambeochaaGreatDoor

def tAd (j : Nat) : ByteArray := ⟨#[65, UInt8.ofNat (49 + j), 32, 43, 32, 48]⟩
def tMu (j : Nat) : ByteArray := ⟨#[65, UInt8.ofNat (49 + j), 32, 42, 32, 48, 32, 43, 32, 53]⟩
def dAd (j : Nat) : Beh := binA 5 (rdc (6 * j)) (retA (vI 0))
def dMu (j : Nat) : Beh := binA 5 (binA 7 (rdc (6 * j)) (retA (vI 0))) (retA (vI 5))
theorem txt_ad {j : Nat} (h : j < 7) : TxtOK (tAd j) (dAd j) := by
  rcases svn h with rfl | rfl | rfl | rfl | rfl | rfl | rfl
  · exact txt_of (l := [65, 49, 32, 43, 32, 48]) (g := [tCell 0] ++ tOp 0 :: [tNum [48]]) (by kernel_rfl) (by kernel_rfl) (by kernel_rfl) (by kernel_rfl) (by kernel_rfl) (cg_plus (o := tOp 0) (by decide) (cg_cell (by omega)) (cg_n [48] 0 rfl (by omega)))
  · exact txt_of (l := [65, 50, 32, 43, 32, 48]) (g := [tCell 6] ++ tOp 0 :: [tNum [48]]) (by kernel_rfl) (by kernel_rfl) (by kernel_rfl) (by kernel_rfl) (by kernel_rfl) (cg_plus (o := tOp 0) (by decide) (cg_cell (by omega)) (cg_n [48] 0 rfl (by omega)))
  · exact txt_of (l := [65, 51, 32, 43, 32, 48]) (g := [tCell 12] ++ tOp 0 :: [tNum [48]]) (by kernel_rfl) (by kernel_rfl) (by kernel_rfl) (by kernel_rfl) (by kernel_rfl) (cg_plus (o := tOp 0) (by decide) (cg_cell (by omega)) (cg_n [48] 0 rfl (by omega)))
  · exact txt_of (l := [65, 52, 32, 43, 32, 48]) (g := [tCell 18] ++ tOp 0 :: [tNum [48]]) (by kernel_rfl) (by kernel_rfl) (by kernel_rfl) (by kernel_rfl) (by kernel_rfl) (cg_plus (o := tOp 0) (by decide) (cg_cell (by omega)) (cg_n [48] 0 rfl (by omega)))
  · exact txt_of (l := [65, 53, 32, 43, 32, 48]) (g := [tCell 24] ++ tOp 0 :: [tNum [48]]) (by kernel_rfl) (by kernel_rfl) (by kernel_rfl) (by kernel_rfl) (by kernel_rfl) (cg_plus (o := tOp 0) (by decide) (cg_cell (by omega)) (cg_n [48] 0 rfl (by omega)))
  · exact txt_of (l := [65, 54, 32, 43, 32, 48]) (g := [tCell 30] ++ tOp 0 :: [tNum [48]]) (by kernel_rfl) (by kernel_rfl) (by kernel_rfl) (by kernel_rfl) (by kernel_rfl) (cg_plus (o := tOp 0) (by decide) (cg_cell (by omega)) (cg_n [48] 0 rfl (by omega)))
  · exact txt_of (l := [65, 55, 32, 43, 32, 48]) (g := [tCell 36] ++ tOp 0 :: [tNum [48]]) (by kernel_rfl) (by kernel_rfl) (by kernel_rfl) (by kernel_rfl) (by kernel_rfl) (cg_plus (o := tOp 0) (by decide) (cg_cell (by omega)) (cg_n [48] 0 rfl (by omega)))
theorem txt_mu {j : Nat} (h : j < 7) : TxtOK (tMu j) (dMu j) := by
  rcases svn h with rfl | rfl | rfl | rfl | rfl | rfl | rfl
  · exact txt_of (l := [65, 49, 32, 42, 32, 48, 32, 43, 32, 53]) (g := ([tCell 0] ++ tOp 2 :: [tNum [48]]) ++ tOp 0 :: [tNum [53]]) (by kernel_rfl) (by kernel_rfl) (by kernel_rfl) (by kernel_rfl) (by kernel_rfl) (cg_lift (by omega) (cg_two (lv := 1) (o := tOp 0) (by omega) (by decide) (cg_two (lv := 2) (o := tOp 2) (by omega) (by decide) (cg_cell (by omega)) (cg_n [48] 0 rfl (by omega))) (cg_up2 (cg_n [53] 5 rfl (by omega)))))
  · exact txt_of (l := [65, 50, 32, 42, 32, 48, 32, 43, 32, 53]) (g := ([tCell 6] ++ tOp 2 :: [tNum [48]]) ++ tOp 0 :: [tNum [53]]) (by kernel_rfl) (by kernel_rfl) (by kernel_rfl) (by kernel_rfl) (by kernel_rfl) (cg_lift (by omega) (cg_two (lv := 1) (o := tOp 0) (by omega) (by decide) (cg_two (lv := 2) (o := tOp 2) (by omega) (by decide) (cg_cell (by omega)) (cg_n [48] 0 rfl (by omega))) (cg_up2 (cg_n [53] 5 rfl (by omega)))))
  · exact txt_of (l := [65, 51, 32, 42, 32, 48, 32, 43, 32, 53]) (g := ([tCell 12] ++ tOp 2 :: [tNum [48]]) ++ tOp 0 :: [tNum [53]]) (by kernel_rfl) (by kernel_rfl) (by kernel_rfl) (by kernel_rfl) (by kernel_rfl) (cg_lift (by omega) (cg_two (lv := 1) (o := tOp 0) (by omega) (by decide) (cg_two (lv := 2) (o := tOp 2) (by omega) (by decide) (cg_cell (by omega)) (cg_n [48] 0 rfl (by omega))) (cg_up2 (cg_n [53] 5 rfl (by omega)))))
  · exact txt_of (l := [65, 52, 32, 42, 32, 48, 32, 43, 32, 53]) (g := ([tCell 18] ++ tOp 2 :: [tNum [48]]) ++ tOp 0 :: [tNum [53]]) (by kernel_rfl) (by kernel_rfl) (by kernel_rfl) (by kernel_rfl) (by kernel_rfl) (cg_lift (by omega) (cg_two (lv := 1) (o := tOp 0) (by omega) (by decide) (cg_two (lv := 2) (o := tOp 2) (by omega) (by decide) (cg_cell (by omega)) (cg_n [48] 0 rfl (by omega))) (cg_up2 (cg_n [53] 5 rfl (by omega)))))
  · exact txt_of (l := [65, 53, 32, 42, 32, 48, 32, 43, 32, 53]) (g := ([tCell 24] ++ tOp 2 :: [tNum [48]]) ++ tOp 0 :: [tNum [53]]) (by kernel_rfl) (by kernel_rfl) (by kernel_rfl) (by kernel_rfl) (by kernel_rfl) (cg_lift (by omega) (cg_two (lv := 1) (o := tOp 0) (by omega) (by decide) (cg_two (lv := 2) (o := tOp 2) (by omega) (by decide) (cg_cell (by omega)) (cg_n [48] 0 rfl (by omega))) (cg_up2 (cg_n [53] 5 rfl (by omega)))))
  · exact txt_of (l := [65, 54, 32, 42, 32, 48, 32, 43, 32, 53]) (g := ([tCell 30] ++ tOp 2 :: [tNum [48]]) ++ tOp 0 :: [tNum [53]]) (by kernel_rfl) (by kernel_rfl) (by kernel_rfl) (by kernel_rfl) (by kernel_rfl) (cg_lift (by omega) (cg_two (lv := 1) (o := tOp 0) (by omega) (by decide) (cg_two (lv := 2) (o := tOp 2) (by omega) (by decide) (cg_cell (by omega)) (cg_n [48] 0 rfl (by omega))) (cg_up2 (cg_n [53] 5 rfl (by omega)))))
  · exact txt_of (l := [65, 55, 32, 42, 32, 48, 32, 43, 32, 53]) (g := ([tCell 36] ++ tOp 2 :: [tNum [48]]) ++ tOp 0 :: [tNum [53]]) (by kernel_rfl) (by kernel_rfl) (by kernel_rfl) (by kernel_rfl) (by kernel_rfl) (cg_lift (by omega) (cg_two (lv := 1) (o := tOp 0) (by omega) (by decide) (cg_two (lv := 2) (o := tOp 2) (by omega) (by decide) (cg_cell (by omega)) (cg_n [48] 0 rfl (by omega))) (cg_up2 (cg_n [53] 5 rfl (by omega)))))
/-- A number of the statement. -/
def Sm (a : Int) : Prop := -2305843009213693952 ≤ a ∧ a ≤ 2305843009213693952
theorem add_zero' {a : Int} (h : Sm a) : comb 5 (vI a) (vI 0) = vI a := by
  unfold Sm at h
  have h1 : comb 5 (vI a) (vI 0) = vAdd (vI a) (vI 0) := by unfold comb; rw [if_pos rfl]
  have h2 : vAdd (vI a) (vI 0) = vNum (a + 0) := by unfold vAdd; rw [if_pos (by unfold vI; exact ⟨rfl, rfl⟩)]; unfold vI; rfl
  have h3 : inR (a + 0) = true := by unfold inR; exact decide_eq_true (by omega)
  rw [h1, h2]
  unfold vNum
  rw [if_pos h3, Int.add_zero]
theorem mul_zero' (a : Int) : comb 7 (vI a) (vI 0) = vI 0 := by
  have h1 : comb 7 (vI a) (vI 0) = vMul (vI a) (vI 0) := by unfold comb; rw [if_neg (by decide), if_neg (by decide), if_pos rfl]
  have h2 : vMul (vI a) (vI 0) = vNum (a * 0) := by unfold vMul; rw [if_pos (by unfold vI; exact ⟨rfl, rfl⟩)]; unfold vI; rfl
  rw [h1, h2, Int.mul_zero]
  unfold vNum
  rw [if_pos (by decide)]
theorem one_run {d : Beh} {x : V} {n0 : Nd} (h0 : d [] = .inr n0) : ∀ i, i < [x].length → ∃ nd, d ([x].take i) = .inr nd
  | 0, _ => ⟨_, h0⟩
  | i + 1, h => absurd h (by simp)
theorem ad_run (j : Nat) {a : Int} (h : Sm a) : Tr (bindA (dAd j) retA) [⟨⟨6 * j, false⟩, vI a⟩] ∧ bindA (dAd j) retA [vI a] = .inl (vI a) := by
  refine ⟨⟨rfl, trivial⟩, ?_⟩
  have e : dAd j [vI a] = .inl (vI a) := by
    show Sum.inl (comb 5 (vI a) (vI 0)) = _
    rw [add_zero' h]
  rw [bindA_run (one_run rfl) e]; rfl
theorem mu_run (j : Nat) (a : Int) : Tr (bindA (dMu j) retA) [⟨⟨6 * j, false⟩, vI a⟩] ∧ bindA (dMu j) retA [vI a] = .inl (vI 5) := by
  refine ⟨⟨rfl, trivial⟩, ?_⟩
  have e1 : binA 7 (rdc (6 * j)) (retA (vI 0)) [vI a] = .inl (vI 0) := by
    show Sum.inl (comb 7 (vI a) (vI 0)) = _
    rw [mul_zero']
  have e2 : dMu j [vI a] = .inl (vI 5) := by
    unfold dMu
    rw [binA, bindE]
    rw [bindA_run (one_run rfl) e1]
    rfl
  rw [bindA_run (one_run rfl) e2]; rfl
/-- The formula of a cell behind the first one. -/
def ctT (p j : Nat) : ByteArray := if j + 1 = p then tMu j else tAd j
def ctD (p j : Nat) : Beh := if j + 1 = p then dMu j else dAd j
theorem txt_ct {p j : Nat} (h : j < 7) : TxtOK (ctT p j) (ctD p j) := by
  unfold ctT ctD
  split
  · exact txt_mu h
  · exact txt_ad h
/-- The sheet of the statement. -/
def ctG (p m : Nat) (t : ByteArray) : Nat → ByteArray := fun c => if c % 6 = 0 ∧ 1 ≤ c / 6 ∧ c / 6 < m then ctT p (c / 6 - 1) else if c = 0 then t else eB
theorem ctG_start {p : Nat} {t : ByteArray} : updF fs0 0 t = ctG p 1 t := by
  funext c
  unfold updF ctG fs0
  rw [if_neg (show ¬ (c % 6 = 0 ∧ 1 ≤ c / 6 ∧ c / 6 < 1) by omega)]
theorem ctG_next {p m : Nat} {t : ByteArray} (hm : 1 ≤ m) : updF (ctG p m t) (6 * m) (ctT p (m - 1)) = ctG p (m + 1) t := by
  funext c
  unfold updF ctG
  by_cases h : c = 6 * m
  · rw [if_pos h, if_pos ⟨by omega, by omega, by omega⟩, show c / 6 = m by omega]
  · rw [if_neg h]
    have e : (c % 6 = 0 ∧ 1 ≤ c / 6 ∧ c / 6 < m + 1) = (c % 6 = 0 ∧ 1 ≤ c / 6 ∧ c / 6 < m) := propext ⟨fun hh => ⟨hh.1, hh.2.1, by omega⟩, fun hh => ⟨hh.1, hh.2.1, by omega⟩⟩
    simp only [e]
theorem ctG_num {p m : Nat} {t u : ByteArray} : updF (ctG p m t) 0 u = ctG p m u := by
  funext c
  unfold updF ctG
  by_cases h : c = 0
  · rw [if_pos h, if_neg (by omega), if_pos h]
  · rw [if_neg h]
    simp only [if_neg h]
section
variable {p n : Nat} {t : ByteArray}
theorem ctG_0 : ctG p n t 0 = t := by
  unfold ctG
  rw [if_neg (by omega), if_pos rfl]
theorem ctG_c {j : Nat} (h : j + 1 < n) : ctG p n t (6 * (j + 1)) = ctT p j := by
  unfold ctG
  rw [if_pos ⟨by omega, by omega, by omega⟩, show 6 * (j + 1) / 6 - 1 = j by omega]
theorem fsT_ct {d : Beh} (hn : n ≤ 8) (ht : TxtOK t d) : FsT (ctG p n t) := by
  refine ⟨fun c hc => ?_, fun c hc => ?_⟩
  · unfold ctG at hc ⊢
    split
    · exact ⟨_, txt_ct (by omega)⟩
    · split
      · exact ⟨_, ht⟩
      · rename_i g1 g2
        rw [if_neg g1, if_neg g2] at hc
        exact absurd rfl hc
  · unfold ctG
    rw [if_neg (by omega), if_neg (by omega)]
def litT (a : Int) : ByteArray := ⟨(Lib.itoa a).toArray⟩
theorem Sm.big {a : Int} (h : Sm a) : -9223372036854775807 ≤ a ∧ a ≤ 9223372036854775807 := by unfold Sm at h; omega
/-- What a cell is worth. -/
def ctV (p : Nat) (a : Int) (i : Nat) : Int := if p ≤ i then 5 else a
variable {E : Env} {val : Nat → V} {a b : Int}
theorem ct_vals (hE : EnvOK E) (ha : Sm a) (hp : 1 ≤ p) (hn : n ≤ 8) (hv : ∀ c, Val E.D (ctG p n (litT a)) c (val c)) : ∀ i, i < n → val (6 * i) = vI (ctV p a i)
  | 0, _ => by
    have e : ctV p a 0 = a := by unfold ctV; rw [if_neg (by omega)]
    rw [e]
    have ht := txt_lit a ha.big
    have h0 : ctG p n (litT a) (6 * 0) = litT a := ctG_0
    refine (val_of hv (c := 6 * 0) (by rw [h0]; exact ht.ne) (rs := []) trivial (Hold.nil _) ?_).1
    rw [h0]
    show E.D ⟨(Lib.itoa a).toArray⟩ [] = _
    rw [ht.D hE]
    exact lit_val ha.big
  | j + 1, hi => by
    have ih := ct_vals hE ha hp hn hv j (by omega)
    have e := ctG_c (p := p) (t := litT a) hi
    have hh : Hold val [⟨⟨6 * j, false⟩, vI (ctV p a j)⟩] := by
      intro r hr
      rw [List.mem_singleton] at hr
      subst hr
      rw [ih]; exact ⟨rfl, i_ne _⟩
    have hs : Sm (ctV p a j) := by unfold ctV; split; unfold Sm; omega; exact ha
    have ht := txt_ct (p := p) (j := j) (by omega)
    refine (val_of hv (c := 6 * (j + 1)) (by rw [e]; exact ht.ne) (rs := [⟨⟨6 * j, false⟩, vI (ctV p a j)⟩]) ?_ hh ?_).1
    · rw [e, ht.D hE]
      unfold ctD
      split
      · exact (mu_run j _).1
      · exact (ad_run j hs).1
    · rw [e, ht.D hE]
      unfold ctD
      split
      · rename_i hq
        show bindA (dMu j) retA [vI (ctV p a j)] = _
        rw [(mu_run j _).2]
        have : ctV p a (j + 1) = 5 := by unfold ctV; rw [if_pos (by omega)]
        rw [this]
      · rename_i hq
        show bindA (dAd j) retA [vI (ctV p a j)] = _
        rw [(ad_run j hs).2]
        have : ctV p a (j + 1) = ctV p a j := by
          unfold ctV
          by_cases h1 : p ≤ j
          · rw [if_pos h1, if_pos (by omega)]
          · rw [if_neg h1, if_neg (by omega)]
        rw [this]
theorem ct_rs (hE : EnvOK E) (ha : Sm a) (hp : 1 ≤ p) (hn : n ≤ 8) {k : Kp} (hk : KInv E (ctG p n (litT a)) k) {j : Nat} (hj : j + 1 < n) : (k.last (6 * (j + 1))).rs = [⟨⟨6 * j, false⟩, vI (ctV p a j)⟩] := by
  have hv := ct_vals hE ha hp hn hk.v
  have e := ctG_c (p := p) (t := litT a) hj
  have ht := txt_ct (p := p) (j := j) (by omega)
  have hs : Sm (ctV p a j) := by unfold ctV; split; unfold Sm; omega; exact ha
  have hh : Hold (fun c => (k.last c).v) [⟨⟨6 * j, false⟩, vI (ctV p a j)⟩] := by
    intro r hr
    rw [List.mem_singleton] at hr
    subst hr
    show vI (ctV p a j) = see ⟨6 * j, false⟩ (k.last (6 * j)).v ∧ (k.last (6 * j)).v ≠ cyc
    rw [hv j (by omega)]; exact ⟨rfl, i_ne _⟩
  have h1 : Tr (E.D (ctT p j)) [⟨⟨6 * j, false⟩, vI (ctV p a j)⟩] ∧ ∃ v, E.D (ctT p j) [vI (ctV p a j)] = .inl v := by
    rw [ht.D hE]
    unfold ctD
    split
    · exact ⟨(mu_run j _).1, _, (mu_run j _).2⟩
    · exact ⟨(ad_run j hs).1, _, (ad_run j hs).2⟩
  obtain ⟨h2, v, h3⟩ := h1
  exact hk.rs (c := 6 * (j + 1)) (v := v) (by rw [e]; exact ht.ne) (by rw [e]; exact h2) (by rw [e]; exact h3) hh (by rw [hv (j + 1) hj]; exact i_ne _)
/-- Behind the cell that throws away what it reads nothing is begun. -/
theorem ct_idle (hE : EnvOK E) (ha : Sm a) (hb : Sm b) (hp : 1 ≤ p) (hn : n ≤ 8) {k k' : Kp} {o w : Nat} {bg : List Nat} (hk : KInv E (ctG p n (litT a)) k) (ho : o < 3) (hw : w ≠ 0) (h : WorkP E k (ctG p n (litT b)) o w k' bg) {i : Nat} (hi : i < n) (hpi : p < i) : 6 * i ∉ bg := by
  have hf := fsT_ct (p := p) (n := n) hn (txt_lit b hb.big)
  have hk' := h.inv hE hk hf ho
  obtain ⟨j, rfl⟩ : ∃ j, i = j + 1 := ⟨i - 1, by omega⟩
  refine h.idle hE hk hf ho (by rw [hk.f, ctG_c hi, ctG_c hi]) (by rw [ct_vals hE ha hp hn hk.v _ hi]; exact i_ne _) (fun _ => ?_) (fun h0 => absurd h0 hw)
  rw [ct_rs hE ha hp hn hk hi]
  intro r hr
  rw [List.mem_singleton] at hr
  subst hr
  have hv := ct_vals hE hb hp hn hk'.v j (by omega)
  have e1 : ctV p b j = 5 := by unfold ctV; rw [if_pos (by omega)]
  have e2 : ctV p a j = 5 := by unfold ctV; rw [if_pos (by omega)]
  show vI (ctV p a j) = see ⟨6 * j, false⟩ (k'.last (6 * j)).v ∧ (k'.last (6 * j)).v ≠ cyc
  rw [hv, e1, e2]
  exact ⟨rfl, i_ne _⟩
end
end Go.Proofs.YtiocnfambeochaaGreatDoor

/- Names of the first column, small numbers; calls on a sheet whose answer is known. -/
set_option linter.unusedVariables false
set_option linter.unusedSimpArgs false
namespace Go.Proofs.YtiocnfambeochaaGreatDoor
open Go.RowKit

def nA (j : Nat) : ByteArray := ⟨#[65, UInt8.ofNat (49 + j)]⟩
theorem eight {j : Nat} (h : j < 8) : j = 0 ∨ j = 1 ∨ j = 2 ∨ j = 3 ∨ j = 4 ∨ j = 5 ∨ j = 6 ∨ j = 7 := by omega
theorem name_w {j : Nat} (h : j < 8) (w : World) : Calls Tryz.prog 24 #[.int .i64 (6 * (j : Int))] w fun e w' => e = .returned (.string (nA j)) ∧ Below w.heap.size w w' := by
  have := name_any (6 * j) (by omega) w
  rw [show ((6 * j : Nat) : Int) = 6 * (j : Int) by omega] at this
  refine this.mono ?_
  rintro e w' ⟨rfl, hb⟩
  refine ⟨?_, hb⟩
  unfold nmT nA
  rw [show 6 * j % 6 = 0 by omega, show 6 * j / 6 = j by omega]
  rfl
theorem nA_cell {j : Nat} (h : j < 8) : cellN (nA j).data.toList = some (6 * j) := by
  rcases eight h with rfl | rfl | rfl | rfl | rfl | rfl | rfl | rfl <;> decide
theorem meas {a b : Int} (h : a < b) (h1 : b ≤ 100) : (100 - b).toNat < (100 - a).toNat := by omega
/-- Numbers of a ring's cell. -/
structure Num7 (i : Nat) : Prop where
  m1 : IntKind.i64.wrap (6 * (i : Int)) = 6 * (i : Int)
  m2 : wrap64 (6 * (i : Int)) = 6 * (i : Int)
  p1 : IntKind.i64.wrap ((i : Int) + 1) = (i : Int) + 1
  p2 : wrap64 ((i : Int) + 1) = (i : Int) + 1
  s1 : IntKind.i64.wrap (i : Int) = (i : Int)
  s2 : wrap64 (i : Int) = (i : Int)
theorem num7 {i : Nat} (h : i < 8) : Num7 i := ⟨by rw [IntKind.wrap_i64]; omega, by unfold wrap64; omega, by rw [IntKind.wrap_i64]; omega, by unfold wrap64; omega, by rw [IntKind.wrap_i64]; omega, by unfold wrap64; omega⟩
section
variable {E : Env} {w0 w w' : World} {x : Nat} {fl fs : Nat → ByteArray} {k k' : Kp}
theorem bel_alloc (w : World) (o : Obj) : Below w.heap.size w (w.alloc o) := (Below.refl _ _).alloc (Nat.le_refl _) _
end
end Go.Proofs.YtiocnfambeochaaGreatDoor

/- Work over a sheet's state; small numbers. -/
set_option linter.unusedVariables false
set_option linter.unusedSimpArgs false
namespace Go.Proofs.YtiocnfambeochaaGreatDoor
open Go.RowKit

section
variable {E : Env} {w0 w w' : World} {x : Nat} {fl fs : Nat → ByteArray} {k k' : Kp}
theorem work_s (hE : Hid (EnvOK E)) (hA : Hid (Amb w0)) (h : Hid (ShS E w0 w x fl fs k)) (order way : Nat) (ho : Hid (order < 3)) (hw : Hid (way < 3)) :
    Calls Tryz.prog 37 #[.pointer (some ⟨x, 0, none⟩), .int .i64 order, .int .i64 way] w fun e w' => ∃ ao cp k' bg, e = .returned (.tuple #[.agg #[.slice ao (List.length bg) cp], .int .i64 0]) ∧ Hid (ShS E w0 w' x fs fs k' ∧ WorkP E k fs order way k' bg ∧ Slc w' 9 1 (.slice ao bg.length cp) bg.length (bg.map nmV)) := by
  refine (work37 hE.out w x order way fl fs bd0 k h.out.sr (EVc.ofVar (hA.out.below h.out.bel).1) h.out.kinv (h.out.ft.ok hE.out).1 (h.out.ft.ok hE.out).2 ho.out hw.out).mono ?_
  rintro e w' ⟨v, k', bg, rfl, h1⟩
  obtain ⟨g1, g2, g3, g4, g5⟩ := h1.out
  obtain ⟨ao, cp, rfl⟩ := g4.len
  exact ⟨ao, cp, k', bg, rfl, ⟨h.out.bel' g3, h.out.xB, g2, g1.inv hE.out h.out.kinv h.out.ft ho.out, h.out.ft⟩, g1, g4⟩
/-- A slice of a world stays what it is while blocks are made behind it. -/
theorem Slc.bel {v : Value} {e s n : Nat} {l : List Value} (h : Slc w e s v n l) (hb : Below w.heap.size w w') : Slc w' e s v n l := h.kept fun g hg => hb.block g (h.lt g hg)
end
theorem ctPrev {i j : Nat} (h : i = j + 1) (hn : i < 8) : IntKind.i64.wrap ((i : Int) - 1) = (j : Int) ∧ wrap64 ((i : Int) - 1) = (j : Int) := ⟨by rw [IntKind.wrap_i64]; omega, by unfold wrap64; omega⟩
theorem lt_c {i n : Nat} (h : i < n) : (i : Int) < (n : Int) := by omega
theorem ge_c {i n : Nat} (h : ¬ i < n) : ¬ (i : Int) < (n : Int) := by omega
theorem eq_c {i n : Nat} (h : ¬ i = n) : ¬ (i : Int) = (n : Int) ∧ ((i : Int) == (n : Int)) = false := by
  have h1 : ¬ (i : Int) = (n : Int) := by omega
  exact ⟨h1, by simpa using h1⟩
theorem le_c {i n : Nat} (h : i ≤ n) : (i : Int) ≤ (n : Int) := by omega
theorem gt_c {i n : Nat} (h : ¬ i ≤ n) : ¬ (i : Int) ≤ (n : Int) := by omega
theorem nz_c {y : Nat} (h : y ≠ 0) : ¬ (y : Int) = 0 ∧ ((y : Int) == 0) = false := by
  have h1 : ¬ (y : Int) = 0 := by omega
  exact ⟨h1, by simpa using h1⟩
end Go.Proofs.YtiocnfambeochaaGreatDoor
