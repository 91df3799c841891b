/- Texts put together. -/
import Derived.Test.YtlpmmmmniojflaaGreatDoorRnd
/- Plain mathematics: a cell's turn keeps what is true of a working out. -/
set_option linter.unusedVariables false
set_option linter.unusedSimpArgs false
namespace Go.Proofs.YtlpmmmmniojflaaGreatDoor
theorem actN_succ : ∀ (n : Nat) (d : Beh), ActN n d → ActN (n + 1) d
  | 0, d, h => .inl h
  | n + 1, d, h => by
    rcases h with h | ⟨nd, h1, h2, h3⟩
    · exact .inl h
    · exact .inr ⟨nd, h1, h2, fun x hx => actN_succ n _ (h3 x hx)⟩
theorem actN_tr : ∀ (l : List Rd) (d : Beh) (n : Nat), ActN n d → Tr d l → (∀ r ∈ l, OKV r.w) → (∀ r ∈ l, r.nd.c < 48) ∧ ActN n (fun h => d (ws l ++ h))
  | [], d, n, h, _, _ => ⟨by simp, h⟩
  | a :: l, d, n, h, ⟨h1, h2⟩, ho => by
    obtain ⟨hc, m, rfl, hm⟩ := h.next h1
    obtain ⟨g1, g2⟩ := actN_tr l _ m (hm a.w (ho a List.mem_cons_self)) h2 (fun r hr => ho r (List.mem_cons_of_mem _ hr))
    refine ⟨fun r hr => ?_, actN_succ _ _ g2⟩
    rcases List.mem_cons.1 hr with rfl | hr
    · exact hc
    · exact g1 r hr
theorem see_ne {nd : Nd} {v : V} (h : v ≠ cyc) : see nd v ≠ cyc := by
  unfold see
  split
  · unfold vI cyc vE; simp
  · exact h
theorem take_next {α : Type} {l : List α} {n : Nat} {x : α} (h : l[n]? = some x) : l.take (n + 1) = l.take n ++ [x] := by
  rw [List.take_add_one, h]; rfl
theorem drop_head {α : Type} {l : List α} {n : Nat} {x : α} {t : List α} (h : l.drop n = x :: t) : l[n]? = some x ∧ l.drop (n + 1) = t := by
  have h1 := congrArg (fun m => m[0]?) h
  simp at h1
  refine ⟨h1, ?_⟩
  have := congrArg (List.drop 1) h
  rw [List.drop_drop] at this
  simpa using this
section
variable {E : Env} {val : Nat → V} {S0 : Con} {Cl : Nat → Prop} {X : Nat → Ans → Prop} {r : Rn} {cs : List Nat} {c : Nat}
theorem tryR_ok (hW : RightW E) {a : Ans} {l : List Ans} : ∀ (rest : List Rd) (r : Rn), Inv E val S0 Cl X r cs → (r.tk c).st = 1 → (r.tk c).kn = a :: l → a.rs.drop (r.tk c).held = rest →
    ∃ r', Inv E val S0 Cl X r' cs ∧ Frm r r' c ∧ r'.bg = r.bg ∧ r'.store = r.store ∧ (r'.tk c).st = 1 ∧ (r'.tk c).kn = a :: l ∧
      ((tryR E c rest r = (r', none) ∧ ∃ o, Waits r' c o) ∨ (tryR E c rest r = (r', some true) ∧ Hold val a.rs) ∨ (tryR E c rest r = (r', some false) ∧ ¬ Hold val a.rs))
  | [], r, h, hs, hk, hd => by
    have hu := h.uns c (by rw [hs]; decide)
    obtain ⟨g1, g2⟩ := hu.held a l hk
    refine ⟨r, h, Frm.refl r c, rfl, rfl, hs, hk, .inr (.inl ⟨rfl, ?_⟩)⟩
    have : a.rs.length ≤ (r.tk c).held := List.drop_eq_nil_iff.1 hd
    rw [List.take_of_length_le this] at g2
    exact g2
  | x :: rest, r, h, hs, hk, hd => by
    have h3 : (r.tk c).st ≠ 3 := by rw [hs]; decide
    have hu := h.uns c h3
    obtain ⟨g1, g2⟩ := hu.held a l hk
    obtain ⟨e1, e2⟩ := drop_head hd
    obtain ⟨⟨va0, va1, va2, va3⟩, vf, vo⟩ := hu.kn a (by rw [hk]; exact List.mem_cons_self)
    have hm : x ∈ a.rs := List.mem_of_getElem? e1
    rw [vf] at va1
    have hn := needs_of h.hv hu.f (tr_take _ _ _ va1) g2 (tr_at _ _ _ _ va1 e1)
    rcases look_ok hW h h3 hn (va3 x hm).2 with hl | ⟨hl, hi, hw⟩
    · by_cases hh : (see x.nd (val x.nd.c)).eqB x.w = true
      · have hx := eqB_iff.1 hh
        have hne : val x.nd.c ≠ cyc := by
          intro e; rw [e, see_cyc] at hx; exact (va3 x hm).1 hx.symm
        have hi : Inv E val S0 Cl X (r.put c { r.tk c with held := (r.tk c).held + 1 }) cs := by
          refine h.put h3 _ (by show (r.tk c).st < 3; omega) ?_ (h.wt c) ?_ (fun b hb => (h.x c b hb).2)
          · refine { f := hu.f, lt := hu.lt, kn := ?_, held := ?_, held0 := ?_, run := ?_ }
            · rw [put_same]; exact fun b hb => ⟨(hu.kn b hb).1, (hu.kn b hb).2.1, (hu.kn b hb).2.2.put _ (h.notcs h3)⟩
            · rw [put_same]
              intro b m hb
              have : b = a := by
                have hb : (r.tk c).kn = b :: m := hb
                rw [hk] at hb; cases hb; rfl
              subst this
              refine ⟨?_, ?_⟩
              · show (r.tk c).held + 1 ≤ b.rs.length
                have := (List.getElem?_eq_some_iff.1 e1).1
                omega
              · show Hold val (b.rs.take ((r.tk c).held + 1))
                rw [take_next e1]
                exact g2.app hx.symm hne
            · rw [put_same]; intro e; have e : (r.tk c).kn = [] := e; rw [hk] at e; cases e
            · rw [put_same]; intro e; have e : (r.tk c).st = 2 := e; omega
          · refine endW_upd (c := c) h.ends (fun i hi => ?_) ?_
            · show ((r.put c _).tk i).wt = (r.tk i).wt; rw [put_ne _ _ _ hi]
            · have : (r.put c { r.tk c with held := (r.tk c).held + 1 }).wts = r.wts := by
                funext i
                show ((r.put c _).tk i).wt = (r.tk i).wt
                by_cases hi : i = c
                · subst hi; rw [put_same]
                · rw [put_ne _ _ _ hi]
              rw [this]; exact h.ends c
        obtain ⟨r', i1, i2, i3, i4, i5, i6, i7⟩ := tryR_ok hW rest _ hi (by rw [put_same]; exact hs) (by rw [put_same]; exact hk) (by rw [put_same]; exact e2)
        refine ⟨r', i1, (Frm.put r c _).trans i2, i3, i4, i5, i6, ?_⟩
        have : tryR E c (x :: rest) r = tryR E c rest (r.put c { r.tk c with held := (r.tk c).held + 1 }) := by
          rw [tryR, hl]; simp only [hh, if_true]
        rw [this]; exact i7
      · refine ⟨r, h, Frm.refl r c, rfl, rfl, hs, hk, .inr (.inr ⟨?_, ?_⟩)⟩
        · rw [tryR, hl]; simp only [hh]; rfl
        · intro g; exact hh (eqB_iff.2 (g x hm).1.symm)
    · refine ⟨_, hi, Frm.put r c _, rfl, rfl, by rw [put_same]; exact hs, by rw [put_same]; exact hk, .inl ⟨?_, _, hw⟩⟩
      rw [tryR, hl]
theorem tryK_ok (hW : RightW E) (hX : ∀ c a, X c a → Hold val a.rs) : ∀ (kl : List Ans) (r : Rn), Inv E val S0 Cl X r cs → (r.tk c).st = 1 → (r.tk c).kn = kl →
    ∃ r', Inv E val S0 Cl X r' cs ∧ Frm r r' c ∧ r'.bg = r.bg ∧ r'.store = r.store ∧
      ((tryK E c kl r = (r', false) ∧ (r'.tk c).st = 1 ∧ ∃ o, Waits r' c o) ∨ (tryK E c kl r = (r', true) ∧ (r'.tk c).st = 3) ∨ (tryK E c kl r = (r', true) ∧ (r'.tk c).st = 1 ∧ (r'.tk c).kn = [] ∧ ∀ a ∈ kl, ¬ Hold val a.rs))
  | [], r, h, hs, hk => ⟨r, h, Frm.refl r c, rfl, rfl, .inr (.inr ⟨rfl, hs, hk, by simp⟩)⟩
  | a :: l, r, h, hs, hk => by
    obtain ⟨r1, i1, i2, i3, i4, i5, i6, i7⟩ := tryR_ok hW _ r h hs hk rfl
    have h3 : (r1.tk c).st ≠ 3 := by rw [i5]; decide
    have hu := i1.uns c h3
    obtain ⟨⟨va0, va1, va2, va3⟩, vf, vo⟩ := hu.kn a (by rw [i6]; exact List.mem_cons_self)
    rcases i7 with ⟨e, o, hw⟩ | ⟨e, hh⟩ | ⟨e, hh⟩
    · exact ⟨r1, i1, i2, i3, i4, .inl ⟨by rw [tryK, e], i5, o, hw⟩⟩
    · have hv : val c = a.v := by
        rw [vf] at va1 va2
        exact (val_of i1.hv hu.f va1 hh va2).1
      refine ⟨settle r1 c a, i1.settled h3 a vf hv.symm (fun _ => ⟨⟨va0, va1, va2, va3⟩, hh⟩) (.inr ⟨a, vf, hh, vo⟩), i2.trans (Frm.put _ _ _), i3, i4, .inr (.inl ⟨by rw [tryK, e], ?_⟩)⟩
      unfold settle; rw [put_same]
    · have hi : Inv E val S0 Cl X (r1.put c { r1.tk c with kn := l, held := 0 }) cs := by
        refine i1.put h3 _ (by show (r1.tk c).st < 3; omega) ?_ (i1.wt c) ?_ ?_
        · refine { f := hu.f, lt := hu.lt, kn := ?_, held := ?_, held0 := ?_, run := ?_ }
          · rw [put_same]
            intro b hb
            have := hu.kn b (by rw [i6]; exact List.mem_cons_of_mem _ hb)
            exact ⟨this.1, this.2.1, this.2.2.put _ (i1.notcs h3)⟩
          · rw [put_same]; intro b m _; exact ⟨Nat.zero_le _, by show Hold val (b.rs.take 0); rw [List.take_zero]; exact Hold.nil val⟩
          · rw [put_same]; intro _; rfl
          · rw [put_same]; intro e; have e : (r1.tk c).st = 2 := e; omega
        · have : (r1.put c { r1.tk c with kn := l, held := 0 }).wts = r1.wts := by
            funext i
            show ((r1.put c _).tk i).wt = (r1.tk i).wt
            by_cases hi : i = c
            · subst hi; rw [put_same]
            · rw [put_ne _ _ _ hi]
          rw [this]; exact i1.ends
        · intro b hb
          obtain ⟨_, x2, x3⟩ := i1.x c b hb
          refine ⟨x2, fun e => ?_⟩
          have := x3 i5
          rw [i6] at this
          rcases List.mem_cons.1 this with rfl | this
          · exact absurd (hX c _ hb) hh
          · exact this
      obtain ⟨r', j1, j2, j3, j4, j5⟩ := tryK_ok hW hX l _ hi (by rw [put_same]; exact i5) (by rw [put_same])
      have et : tryK E c (a :: l) r = tryK E c l (r1.put c { r1.tk c with kn := l, held := 0 }) := by rw [tryK, e]
      refine ⟨r', j1, (i2.trans (Frm.put _ _ _)).trans j2, j3.trans i3, j4.trans i4, ?_⟩
      rw [et]
      rcases j5 with j5 | j5 | ⟨j5, j6, j7, j8⟩
      · exact .inl j5
      · exact .inr (.inl j5)
      · refine .inr (.inr ⟨j5, j6, j7, fun b hb => ?_⟩)
        rcases List.mem_cons.1 hb with rfl | hb
        · exact hh
        · exact j8 b hb
theorem begin_ok (h : Inv E val S0 Cl X r cs) (hs : (r.tk c).st = 1) (hk : (r.tk c).kn = []) (hx : ∀ a, ¬ X c a) : Inv E val S0 Cl X (beginP E r c) cs ∧ ((beginP E r c).tk c).st = 2 := by
  have h3 : (r.tk c).st ≠ 3 := by rw [hs]; decide
  have hu := h.uns c h3
  have hn := h.notcs h3
  have hcs : ∀ c' ∈ cs, (beginP E r c).tk c' = r.tk c' := fun c' hm => put_ne _ _ _ (fun e => hn (e ▸ hm))
  have same : (beginP E r c).tk c = { r.tk c with st := 2, d := E.D (r.fs c), an := ⟨r.fs c, [], vN⟩ } := put_same _ _ _
  have other : ∀ i, i ≠ c → (beginP E r c).tk i = r.tk i := fun i hi => put_ne _ _ _ hi
  have org : ∀ i a, Org S0 r cs i a → Org S0 (beginP E r c) cs i a := by
    intro i a ho
    rcases ho with ho | ho | ⟨c', o1, o2⟩
    · exact .inl ho
    · exact .inr (.inl ho)
    · exact .inr (.inr ⟨c', o1, by rw [hcs c' o1]; exact o2⟩)
  refine ⟨?_, by rw [same]⟩
  refine { hv := h.hv, fit := h.fit, con := h.con, st := ?_, sett := ?_, uns := ?_, wt := ?_, ends := ?_, sto := ?_, sw := h.sw, stoOK := ?_, lastOK := h.lastOK, nodup := h.nodup, csOK := ?_, bg := ?_, bgE := ?_, done := ?_, cl := ?_, x := ?_ }
  · intro i
    by_cases hi : i = c
    · subst hi; rw [same]; show 2 ≤ 3; omega
    · rw [other i hi]; exact h.st i
  · intro i
    by_cases hi : i = c
    · subst hi; rw [same]; intro e; exact absurd e (by show ¬ 2 = 3; decide)
    · intro e
      rw [other i hi] at e
      have := h.sett i e
      exact { wt := by rw [other i hi]; exact this.wt, f := by rw [other i hi]; exact this.f, v := by rw [other i hi]; exact this.v, good := by rw [other i hi]; exact this.good, none := by rw [other i hi]; exact this.none }
  · intro i
    by_cases hi : i = c
    · subst hi
      intro _
      exact { f := hu.f, lt := hu.lt, kn := by (rw [same]; intro a ha; have ha : a ∈ (r.tk i).kn := ha; rw [hk] at ha; cases ha), held := by (rw [same]; intro a m e; have e : (r.tk i).kn = a :: m := e; rw [hk] at e; cases e),
              held0 := by rw [same]; exact hu.held0,
              run := by rw [same]; intro _; exact ⟨rfl, trivial, Hold.nil val, rfl, hk, by show i ∈ r.bg ++ [i]; simp⟩ }
    · intro e
      rw [other i hi] at e
      have := h.uns i e
      exact { f := this.f, lt := this.lt, kn := by rw [other i hi]; exact fun a ha => ⟨(this.kn a ha).1, (this.kn a ha).2.1, org i a (this.kn a ha).2.2⟩, held := by rw [other i hi]; exact this.held, held0 := by rw [other i hi]; exact this.held0,
              run := by rw [other i hi]; intro e; obtain ⟨a1, a2, a3, a4, a5, a6⟩ := this.run e; exact ⟨a1, a2, a3, a4, a5, List.mem_append_left _ a6⟩ }
  · intro i
    by_cases hi : i = c
    · subst hi; rw [same]; exact h.wt i
    · rw [other i hi]; exact h.wt i
  · have : (beginP E r c).wts = r.wts := by
      funext i
      show ((beginP E r c).tk i).wt = (r.tk i).wt
      by_cases hi : i = c
      · subst hi; rw [same]
      · rw [other i hi]
    rw [this]; exact h.ends
  · show r.store = _
    rw [h.sto]
    congr 1
    exact List.map_congr_left fun c' hm => by rw [hcs c' hm]
  · intro b hb
    obtain ⟨h1, h2⟩ := h.stoOK b hb
    refine ⟨h1, ?_⟩
    rcases h2 with h2 | ⟨c', h2, h4⟩
    · exact .inl h2
    · exact .inr ⟨c', h2, by rw [hcs c' h2]; exact h4⟩
  · intro c' hm
    rw [hcs c' hm]; exact ⟨(h.csOK c' hm).1, List.mem_append_left _ (h.csOK c' hm).2⟩
  · intro i hi
    rcases List.mem_append.1 (show i ∈ r.bg ++ [c] from hi) with hi | hi
    · exact h.bg i hi
    · rw [List.mem_singleton] at hi; subst hi; exact ⟨hu.f, hu.lt, h.cl _ h3⟩
  · intro e; have e : r.bg ++ [c] = [] := e; simp at e
  · intro i
    by_cases hi : i = c
    · subst hi; rw [same]; intro e; exact absurd e (by show ¬ 2 = 3; decide)
    · rw [other i hi]
      intro e f
      rcases h.done i e f with ⟨g1, g2⟩ | g | ⟨a, g1, g2, g3⟩
      · exact .inl ⟨g1, List.mem_append_left _ g2⟩
      · exact .inr (.inl g)
      · exact .inr (.inr ⟨a, g1, g2, org i a g3⟩)
  · intro i
    by_cases hi : i = c
    · subst hi; intro _; exact h.cl _ h3
    · rw [other i hi]; exact h.cl i
  · intro i a hxa
    by_cases hi : i = c
    · subst hi; exact absurd hxa (hx a)
    · rw [other i hi]
      obtain ⟨x1, x2, x3⟩ := h.x i a hxa
      refine ⟨fun hm => ?_, x2, x3⟩
      rcases List.mem_append.1 (show i ∈ r.bg ++ [c] from hm) with hm | hm
      · exact x1 hm
      · rw [List.mem_singleton] at hm; exact hi hm
theorem add_sw {s : Sto} (h : SW s) (a : Ans) : SW (s.add a) := by
  unfold Sto.add
  by_cases hp : s.places = 0
  · rw [if_pos hp]; exact h
  · rw [if_neg hp]
    have h1 := h.next hp
    have h2 := h.size
    refine { len := by simp [h.len], places := h.places, size := Nat.min_le_right _ _, next := fun _ => Nat.mod_lt _ (by omega), open' := ?_ }
    intro hlt
    have hlt : min (s.size + 1) s.places < s.places := hlt
    have h3 := h.open' (by omega)
    show (s.next + 1) % s.places = min (s.size + 1) s.places
    rw [Nat.min_eq_left (by omega), Nat.mod_eq_of_lt (by omega), h3]
theorem has_add {s : Sto} (hs : SW s) {a b : Ans} (h : b ∈ (s.add a).has) : b = a ∨ b ∈ s.has := by
  unfold Sto.add Sto.has at h
  by_cases hp : s.places = 0
  · rw [if_pos hp] at h; exact .inr h
  · rw [if_neg hp] at h
    have h : b ∈ (s.kept.set s.next a).take (min (s.size + 1) s.places) := h
    obtain ⟨i, hi⟩ := List.getElem?_of_mem h
    rw [List.getElem?_take] at hi
    by_cases hlt : i < min (s.size + 1) s.places
    · rw [if_pos hlt] at hi
      by_cases e : i = s.next
      · subst e
        have h1 := hs.next hp
        have h2 := hs.places
        rw [List.getElem?_set_self (by rw [hs.len]; omega)] at hi
        cases hi; exact .inl rfl
      · rw [List.getElem?_set_ne (fun h => e h.symm)] at hi
        right
        have : i < s.size := by
          have h2 := hs.size
          by_cases hf : s.size < s.places
          · have := hs.open' hf; omega
          · omega
        refine List.mem_of_getElem? (i := i) ?_
        unfold Sto.has
        rw [List.getElem?_take, if_pos this]; exact hi
    · rw [if_neg hlt] at hi; cases hi
theorem Inv.added (h : Inv E val S0 Cl X r cs) (hs : (r.tk c).st = 2) (a : Ans) (hf : a.f = r.fs c) (hv : a.v = val c) (hg : VA E a ∧ Hold val a.rs) :
    Inv E val S0 Cl X (settle { r with store := r.store.add a } c a) (cs ++ [c]) := by
  have hc : (r.tk c).st ≠ 3 := by rw [hs]; decide
  have hn := h.notcs hc
  have hu := h.uns c hc
  obtain ⟨_, _, _, _, _, hbg⟩ := hu.run hs
  obtain ⟨r', hr'⟩ : ∃ r', settle { r with store := r.store.add a } c a = r' := ⟨_, rfl⟩
  have same : r'.tk c = ⟨3, -1, [], 0, retA vN, a⟩ := by rw [← hr']; exact put_same _ _ _
  have other : ∀ i, i ≠ c → r'.tk i = r.tk i := fun i hi => by rw [← hr']; exact put_ne _ _ _ hi
  have hfs : r'.fs = r.fs := by rw [← hr']; rfl
  have hla : r'.last = r.last := by rw [← hr']; rfl
  have hbb : r'.bg = r.bg := by rw [← hr']; rfl
  have hst : r'.store = r.store.add a := by rw [← hr']; rfl
  have hsy : ∀ i, stays r' i = stays r i := fun i => by rw [← hr']; rfl
  have hcs : ∀ c' ∈ cs, r'.tk c' = r.tk c' := fun c' hm => other _ (fun e => hn (e ▸ hm))
  rw [hr']
  have org : ∀ i b, Org S0 r cs i b → Org S0 r' (cs ++ [c]) i b := by
    intro i b ho
    rcases ho with ⟨o1, o2⟩ | ho | ⟨c', o1, o2⟩
    · exact .inl ⟨by rw [hsy]; exact o1, by rw [hla]; exact o2⟩
    · exact .inr (.inl ho)
    · exact .inr (.inr ⟨c', List.mem_append_left _ o1, by rw [hcs c' o1]; exact o2⟩)
  refine { hv := by rw [hfs]; exact h.hv, fit := by rw [hfs]; exact h.fit, con := by rw [← hr']; exact h.con, st := ?_, sett := ?_, uns := ?_, wt := ?_, ends := ?_, sto := ?_, sw := by rw [hst]; exact add_sw h.sw a, stoOK := ?_, lastOK := ?_, nodup := ?_, csOK := ?_, bg := by rw [hfs, hbb]; exact h.bg, bgE := ?_, done := ?_, cl := ?_, x := ?_ }
  · intro i
    by_cases hi : i = c
    · subst hi; rw [same]; exact Nat.le_refl _
    · rw [other i hi]; exact h.st i
  · intro i
    by_cases hi : i = c
    · subst hi; intro _
      exact { wt := by rw [same], f := by rw [same, hfs]; exact hf, v := by rw [same]; exact hv, good := fun _ _ => by rw [same]; exact hg, none := fun e => absurd e (by rw [hfs]; exact hu.f) }
    · rw [other i hi]; intro e
      have := h.sett i e
      exact { wt := by rw [other i hi]; exact this.wt, f := by rw [other i hi, hfs]; exact this.f, v := by rw [other i hi]; exact this.v, good := by rw [other i hi, hfs]; exact this.good, none := by rw [other i hi, hfs]; exact this.none }
  · intro i
    by_cases hi : i = c
    · subst hi; rw [same]; intro e; exact absurd rfl e
    · intro e
      rw [other i hi] at e
      have := h.uns i e
      exact { f := by rw [hfs]; exact this.f, lt := this.lt, kn := by (rw [other i hi, hfs]; exact fun a ha => ⟨(this.kn a ha).1, (this.kn a ha).2.1, org i a (this.kn a ha).2.2⟩), held := by rw [other i hi]; exact this.held, held0 := by rw [other i hi]; exact this.held0, run := by rw [other i hi, hfs, hbb]; exact this.run }
  · intro i
    by_cases hi : i = c
    · subst hi; rw [same]; exact ⟨Int.le_refl _, fun e => absurd e (by simp)⟩
    · rw [other i hi, hfs]; exact h.wt i
  · refine endW_none (c := c) h.ends (fun i hi => ?_) ?_
    · show (r'.tk i).wt = (r.tk i).wt; rw [other i hi]
    · show (r'.tk c).wt = -1; rw [same]
  · rw [hst, h.sto, List.map_append, List.foldl_append]
    have : cs.map (fun c => (r'.tk c).an) = cs.map (fun c => (r.tk c).an) := List.map_congr_left fun c' hm => by rw [hcs c' hm]
    rw [this]
    show _ = Sto.add _ (r'.tk c).an
    rw [same]
  · intro b hb
    rw [hst] at hb
    rcases has_add h.sw hb with rfl | hb
    · exact ⟨hg.1, .inr ⟨c, by simp, by rw [same]⟩⟩
    · obtain ⟨h1, h2⟩ := h.stoOK b hb
      refine ⟨h1, ?_⟩
      rcases h2 with h2 | ⟨c', h2, h4⟩
      · exact .inl h2
      · exact .inr ⟨c', List.mem_append_left _ h2, by rw [hcs c' h2]; exact h4⟩
  · intro i; rw [hsy, hfs, hla]; exact h.lastOK i
  · rw [List.nodup_append]
    refine ⟨h.nodup, by simp, fun x hx y hy => ?_⟩
    rw [List.mem_singleton] at hy
    subst hy
    intro e; subst e; exact hn hx
  · intro i hi
    rcases List.mem_append.1 hi with hi | hi
    · rw [hcs i hi, hbb]; exact h.csOK i hi
    · rw [List.mem_singleton] at hi; subst hi; rw [same, hbb]; exact ⟨rfl, hbg⟩
  · intro e; rw [hbb] at e; rw [e] at hbg; cases hbg
  · intro i
    by_cases hi : i = c
    · subst hi; intro _ _
      exact .inr (.inr ⟨a, by rw [hfs]; exact hf, hg.2, .inr (.inr ⟨i, by simp, by rw [same]⟩)⟩)
    · rw [other i hi, hfs, hbb]
      intro e f
      rcases h.done i e f with g | g | ⟨b, g1, g2, g3⟩
      · exact .inl g
      · exact .inr (.inl g)
      · exact .inr (.inr ⟨b, g1, g2, org i b g3⟩)
  · intro i
    by_cases hi : i = c
    · subst hi; rw [same]; intro e; exact absurd rfl e
    · rw [other i hi]; exact h.cl i
  · intro i b hxb
    by_cases hi : i = c
    · subst hi; exact absurd hs (h.x _ b hxb).2.1
    · rw [other i hi, hbb]; exact h.x i b hxb
theorem hold_va (h : Inv E val S0 Cl X r cs) (h0 : r.fs c ≠ eB) {rs : List Rd} (ht : Tr (E.D (r.fs c)) rs) (hh : Hold val rs) :
    (∀ x ∈ rs, x.w ≠ cyc ∧ x.nd.c < 48) ∧ ActN (E.B (r.fs c)) (fun l => E.D (r.fs c) (ws rs ++ l)) := by
  obtain ⟨g1, g2⟩ := actN_tr rs _ _ (h.fit c h0) ht (fun x hx => by
    obtain ⟨w1, w2⟩ := hh x hx
    rw [w1]; exact okv_see ((h.hv _).ok h.Fit w2))
  refine ⟨fun x hx => ⟨?_, g1 x hx⟩, g2⟩
  obtain ⟨w1, w2⟩ := hh x hx
  rw [w1]; exact see_ne w2
theorem runP_ok (hW : RightW E) : ∀ (n : Nat) (r : Rn), Inv E val S0 Cl X r cs → (r.tk c).st = 2 → ActN n (r.tk c).d →
    ∃ r' cs', runP E c (n + 1) r = r' ∧ Inv E val S0 Cl X r' cs' ∧ Frm r r' c ∧ r'.bg = r.bg ∧ ((r'.tk c).st = 3 ∨ ((r'.tk c).st = 2 ∧ ∃ o, Waits r' c o)) := by
  intro n
  induction n with
  | zero =>
    intro r h hs ha
    have h3 : (r.tk c).st ≠ 3 := by rw [hs]; decide
    have hu := h.uns c h3
    obtain ⟨a1, a2, a3, a4, a5, a6⟩ := hu.run hs
    obtain ⟨v, hv, e⟩ := ha
    have e' : E.D (r.fs c) (ws (r.tk c).an.rs) = .inl v := by rw [a4] at e; simpa using e
    obtain ⟨f1, f2⟩ := val_of h.hv hu.f a2 a3 e'
    obtain ⟨g1, g2⟩ := hold_va h hu.f a2 a3
    refine ⟨_, cs ++ [c], rfl, ?_, ?_, ?_, ?_⟩
    · rw [runP, e]
      exact h.added hs { (r.tk c).an with v := v } a1 f1.symm ⟨⟨by show (r.tk c).an.f ≠ eB; rw [a1]; exact hu.f, by show Tr (E.D (r.tk c).an.f) _; rw [a1]; exact a2, by show E.D (r.tk c).an.f _ = _; rw [a1]; exact e', g1⟩, a3⟩
    · rw [runP, e]; exact ⟨rfl, rfl, rfl, fun i hi => put_ne _ _ _ hi⟩
    · rw [runP, e]; rfl
    · rw [runP, e]; left; unfold settle; rw [put_same]
  | succ n ih =>
    intro r h hs ha
    have h3 : (r.tk c).st ≠ 3 := by rw [hs]; decide
    have hu := h.uns c h3
    obtain ⟨a1, a2, a3, a4, a5, a6⟩ := hu.run hs
    obtain ⟨g1, g2⟩ := hold_va h hu.f a2 a3
    rcases ha with ⟨v, hv, e⟩ | ⟨nd, hnd, e, hk⟩
    · have e' : E.D (r.fs c) (ws (r.tk c).an.rs) = .inl v := by rw [a4] at e; simpa using e
      obtain ⟨f1, f2⟩ := val_of h.hv hu.f a2 a3 e'
      refine ⟨_, cs ++ [c], rfl, ?_, ?_, ?_, ?_⟩
      · rw [runP, e]
        exact h.added hs { (r.tk c).an with v := v } a1 f1.symm ⟨⟨by show (r.tk c).an.f ≠ eB; rw [a1]; exact hu.f, by show Tr (E.D (r.tk c).an.f) _; rw [a1]; exact a2, by show E.D (r.tk c).an.f _ = _; rw [a1]; exact e', g1⟩, a3⟩
      · rw [runP, e]; exact ⟨rfl, rfl, rfl, fun i hi => put_ne _ _ _ hi⟩
      · rw [runP, e]; rfl
      · rw [runP, e]; left; unfold settle; rw [put_same]
    · have e' : E.D (r.fs c) (ws (r.tk c).an.rs) = .inr nd := by rw [a4] at e; simpa using e
      have hn := needs_of h.hv hu.f a2 a3 e'
      rcases look_ok hW h h3 hn hnd with hl | ⟨hl, hi, hw⟩
      · by_cases hcy : val nd.c = cyc
        · have hvc := cyc_of h.Fit h.hv hn hcy
          refine ⟨settle r c ⟨r.fs c, [], val nd.c⟩, cs, ?_, ?_, Frm.put _ _ _, rfl, ?_⟩
          · rw [runP, e]
            dsimp only
            rw [hl]
            dsimp only
            rw [if_pos (eqB_iff.2 hcy)]
          · exact h.settled h3 _ rfl (by show val nd.c = val c; rw [hcy, hvc]) (fun g => absurd hvc g) (.inl ⟨hvc, a6⟩)
          · left; unfold settle; rw [put_same]
        · obtain ⟨r1, hr1⟩ : ∃ r1, r1 = r.put c { r.tk c with d := fun l => (r.tk c).d (see nd (val nd.c) :: l), an := { (r.tk c).an with rs := (r.tk c).an.rs ++ [⟨nd, see nd (val nd.c)⟩] } } := ⟨_, rfl⟩
          have same : r1.tk c = { r.tk c with d := fun l => (r.tk c).d (see nd (val nd.c) :: l), an := { (r.tk c).an with rs := (r.tk c).an.rs ++ [⟨nd, see nd (val nd.c)⟩] } } := by rw [hr1, put_same]
          have hi : Inv E val S0 Cl X r1 cs := by
            rw [hr1]
            refine h.put h3 _ (by show (r.tk c).st < 3; omega) ?_ (h.wt c) ?_ (fun b hb => absurd hs (h.x c b hb).2.1)
            · refine { f := hu.f, lt := hu.lt, kn := ?_, held := ?_, held0 := ?_, run := ?_ }
              · rw [put_same]; intro b hb; have hb : b ∈ (r.tk c).kn := hb; rw [a5] at hb; cases hb
              · rw [put_same]; intro b m e; have e : (r.tk c).kn = b :: m := e; rw [a5] at e; cases e
              · rw [put_same]; exact hu.held0
              · rw [put_same]
                intro _
                refine ⟨a1, tr_app _ _ _ a2 e', a3.app rfl hcy, ?_, a5, a6⟩
                show (fun l => (r.tk c).d (see nd (val nd.c) :: l)) = _
                rw [a4]
                funext l
                show _ = E.D (r.fs c) (ws ((r.tk c).an.rs ++ [⟨nd, see nd (val nd.c)⟩]) ++ l)
                simp [ws]
            · have : (r.put c { r.tk c with d := fun l => (r.tk c).d (see nd (val nd.c) :: l), an := { (r.tk c).an with rs := (r.tk c).an.rs ++ [⟨nd, see nd (val nd.c)⟩] } }).wts = r.wts := by
                funext i
                show ((r.put c _).tk i).wt = (r.tk i).wt
                by_cases hi : i = c
                · subst hi; rw [put_same]
                · rw [put_ne _ _ _ hi]
              rw [this]; exact h.ends
          obtain ⟨r', cs', j1, j2, j3, j4, j5⟩ := ih r1 hi (by rw [same]; exact hs) (by rw [same]; exact hk _ (okv_see ((h.hv _).ok h.Fit hcy)))
          refine ⟨r', cs', ?_, j2, ?_, ?_, j5⟩
          · rw [runP, e]
            dsimp only
            rw [hl]
            dsimp only
            rw [if_neg (by rw [eqB_iff]; exact hcy), ← hr1]
            exact j1
          · exact Frm.trans (by rw [hr1]; exact Frm.put _ _ _) j3
          · rw [j4, hr1]; rfl
      · refine ⟨_, cs, ?_, hi, Frm.put _ _ _, rfl, .inr ⟨by rw [put_same]; exact hs, _, hw⟩⟩
        rw [runP, e]
        dsimp only
        rw [hl]
structure Turned (r : Rn) (c : Nat) (t : Rn × Int × Bool) : Prop where
  frm : Frm r t.1 c
  out : (t.2.2 = true ∧ t.2.1 = -1 ∧ (t.1.tk c).st = 3) ∨ (t.2.2 = false ∧ ∃ o : Nat, t.2.1 = o ∧ Waits t.1 c o)
theorem runT_ok (hW : RightW E) (h : Inv E val S0 Cl X r cs) (hs : (r.tk c).st = 2) : (∃ cs', Inv E val S0 Cl X (runT E r c).1 cs') ∧ Turned r c (runT E r c) := by
  have h3 : (r.tk c).st ≠ 3 := by rw [hs]; decide
  have hu := h.uns c h3
  obtain ⟨a1, a2, a3, a4, a5, a6⟩ := hu.run hs
  obtain ⟨g1, g2⟩ := hold_va h hu.f a2 a3
  obtain ⟨r', cs', j1, j2, j3, j4, j5⟩ := runP_ok hW (E.B (r.fs c)) r h hs (by rw [a4]; exact g2)
  have e : runT E r c = (r', (r'.tk c).wt, decide ((r'.tk c).st = 3)) := by unfold runT; rw [j1]
  rw [e]
  refine ⟨⟨cs', j2⟩, j3, ?_⟩
  rcases j5 with j5 | ⟨j5, o, hw⟩
  · left; exact ⟨by simp [j5], (j2.sett c j5).wt, j5⟩
  · right; exact ⟨by simp [j5], o, hw.wt, hw⟩
theorem tryT_ok (hW : RightW E) (hX : ∀ c a, X c a → Hold val a.rs) (h : Inv E val S0 Cl X r cs) (hs : (r.tk c).st = 1) : (∃ cs', Inv E val S0 Cl X (tryT E r c).1 cs') ∧ Turned r c (tryT E r c) := by
  obtain ⟨r', j1, j2, j3, j4, j5⟩ := tryK_ok hW hX _ r h hs rfl
  rcases j5 with ⟨e, k1, o, hw⟩ | ⟨e, k1⟩ | ⟨e, k1, k2, k3⟩
  · have e : tryT E r c = (r', (r'.tk c).wt, false) := by unfold tryT; rw [e]
    rw [e]
    exact ⟨⟨cs, j1⟩, j2, .inr ⟨rfl, o, hw.wt, hw⟩⟩
  · have e : tryT E r c = (r', -1, true) := by unfold tryT; rw [e]; dsimp only; rw [if_pos k1]
    rw [e]
    exact ⟨⟨cs, j1⟩, j2, .inl ⟨rfl, rfl, k1⟩⟩
  · have e : tryT E r c = runT E (beginP E r' c) c := by unfold tryT; rw [e]; dsimp only; rw [if_neg (by omega)]
    obtain ⟨b1, b2⟩ := begin_ok j1 k1 k2 (fun a ha => by
      have := (j1.x c a ha).2.2 k1
      rw [k2] at this; cases this)
    obtain ⟨g1, g2⟩ := runT_ok hW b1 b2
    rw [e]
    have hb : Frm r' (beginP E r' c) c := ⟨rfl, rfl, rfl, fun i hi => put_ne _ _ _ hi⟩
    exact ⟨g1, j2.trans (hb.trans g2.frm), g2.out⟩
theorem fresh_ok (hX : XK E val S0 Cl X) (h : Inv E val S0 Cl X r cs) (hs : (r.tk c).st = 0) : Inv E val S0 Cl X (freshP r c) cs := by
  have h3 : (r.tk c).st ≠ 3 := by rw [hs]; decide
  have hu := h.uns c h3
  refine h.put h3 _ (by show 1 < 3; omega) ?_ (h.wt c) ?_ ?_
  · refine { f := hu.f, lt := hu.lt, kn := ?_, held := ?_, held0 := ?_, run := ?_ }
    · rw [put_same]
      intro a ha
      rcases List.mem_append.1 (show a ∈ (r.tk c).kn ++ known r c from ha) with ha | ha
      · exact ⟨(hu.kn a ha).1, (hu.kn a ha).2.1, (hu.kn a ha).2.2.put _ (h.notcs h3)⟩
      · unfold known at ha
        by_cases h0 : r.way = 0
        · rw [if_pos h0] at ha; cases ha
        · rw [if_neg h0] at ha
          rcases List.mem_append.1 ha with ha | ha
          · by_cases hst : stays r c = true
            · rw [if_pos hst, List.mem_singleton] at ha
              subst ha
              refine ⟨h.lastOK c hst hu.f, ?_, .inl ⟨hst, rfl⟩⟩
              unfold stays at hst
              simp only [Bool.and_eq_true, decide_eq_true_eq] at hst
              exact hst.1
            · rw [if_neg hst] at ha; cases ha
          · by_cases hw : r.way = 2
            · rw [if_pos hw] at ha
              unfold Sto.of at ha
              rw [List.mem_filter] at ha
              obtain ⟨g1, g2⟩ := h.stoOK a ha.1
              refine ⟨g1, of_decide_eq_true ha.2, ?_⟩
              have : Org S0 r cs c a := .inr g2
              exact this.put _ (h.notcs h3)
            · rw [if_neg hw] at ha; cases ha
    · rw [put_same]
      intro a l e
      have e : (r.tk c).kn ++ known r c = a :: l := e
      cases hk : (r.tk c).kn with
      | nil =>
        have := hu.held0 hk
        show (r.tk c).held ≤ _ ∧ Hold val (a.rs.take (r.tk c).held)
        rw [this]
        exact ⟨Nat.zero_le _, by rw [List.take_zero]; exact Hold.nil val⟩
      | cons b m =>
        rw [hk] at e
        have : b = a := by simp at e; exact e.1
        subst this
        exact hu.held b m hk
    · rw [put_same]
      intro e
      have e : (r.tk c).kn ++ known r c = [] := e
      exact hu.held0 (List.append_eq_nil_iff.1 e).1
    · rw [put_same]; intro e; exact absurd e (by show ¬ 1 = 2; decide)
  · have : (r.put c { r.tk c with kn := (r.tk c).kn ++ known r c, st := 1 }).wts = r.wts := by
      funext i
      show ((r.put c _).tk i).wt = (r.tk i).wt
      by_cases hi : i = c
      · subst hi; rw [put_same]
      · rw [put_ne _ _ _ hi]
    rw [this]; exact h.ends
  · intro a ha
    exact ⟨by show 1 ≠ 2; decide, fun _ => List.mem_append_right _ ((hX r cs h c a ha).2 h3)⟩
theorem turn_ok (hW : RightW E) (hX : XK E val S0 Cl X) (h : Inv E val S0 Cl X r cs) : (∃ cs', Inv E val S0 Cl X (turnP E r c).1 cs') ∧ Turned r c (turnP E r c) := by
  have hX' : ∀ c a, X c a → Hold val a.rs := fun c a ha => (hX r cs h c a ha).1
  unfold turnP
  by_cases h0 : (r.tk c).st = 0
  · rw [if_pos h0]
    obtain ⟨g1, g2⟩ := tryT_ok (c := c) hW hX' (fresh_ok hX h h0) (by unfold freshP; rw [put_same])
    exact ⟨g1, (Frm.put _ _ _).trans g2.frm, g2.out⟩
  · rw [if_neg h0]
    by_cases h1 : (r.tk c).st = 1
    · rw [if_pos h1]; exact tryT_ok hW hX' h h1
    · rw [if_neg h1]
      by_cases h2 : (r.tk c).st = 2
      · rw [if_pos h2]; exact runT_ok hW h h2
      · rw [if_neg h2]
        have h3 : (r.tk c).st = 3 := by have := h.st c; omega
        exact ⟨⟨cs, h⟩, Frm.refl _ _, .inl ⟨by simp [h3], (h.sett c h3).wt, h3⟩⟩
theorem leave_ok (h : Inv E val S0 Cl X r cs) (h3 : (r.tk c).st ≠ 3) : Inv E val S0 Cl X (leaveP r c) cs := by
  have hu := h.uns c h3
  refine h.put h3 _ (by show 0 < 3; omega) ?_ (h.wt c) ?_ (fun b hb => ⟨by show 0 ≠ 2; decide, fun e => absurd e (by show ¬ 0 = 1; decide)⟩)
  · refine { f := hu.f, lt := hu.lt, kn := ?_, held := ?_, held0 := ?_, run := ?_ }
    · rw [put_same]; exact fun a ha => ⟨(hu.kn a ha).1, (hu.kn a ha).2.1, (hu.kn a ha).2.2.put _ (h.notcs h3)⟩
    · rw [put_same]; exact hu.held
    · rw [put_same]; exact hu.held0
    · rw [put_same]; intro e; exact absurd e (by show ¬ 0 = 2; decide)
  · have : (r.put c { r.tk c with st := 0 }).wts = r.wts := by
      funext i
      show ((r.put c _).tk i).wt = (r.tk i).wt
      by_cases hi : i = c
      · subst hi; rw [put_same]
      · rw [put_ne _ _ _ hi]
    rw [this]; exact h.ends
end
end Go.Proofs.YtlpmmmmniojflaaGreatDoor
/- Plain mathematics: the three orders come to an end, and then all cells are settled. -/
set_option linter.unusedVariables false
set_option linter.unusedSimpArgs false
namespace Go.Proofs.YtlpmmmmniojflaaGreatDoor
def iter {S : Type} (f : S → S) : Nat → S → S
  | 0, s => s
  | n + 1, s => iter f n (f s)
def Ends {S : Type} (f : S → S) (fin : S → Bool) (s s' : S) : Prop := ∃ n, iter f n s = s' ∧ fin s' = true ∧ ∀ k, k < n → fin (iter f k s) = false
theorem Ends.here {S : Type} {f : S → S} {fin : S → Bool} {s : S} (h : fin s = true) : Ends f fin s s := ⟨0, rfl, h, fun k hk => absurd hk (by omega)⟩
theorem Ends.step {S : Type} {f : S → S} {fin : S → Bool} {s s' : S} (h : fin s = false) (he : Ends f fin (f s) s') : Ends f fin s s' := by
  obtain ⟨n, h1, h2, h3⟩ := he
  refine ⟨n + 1, h1, h2, fun k hk => ?_⟩
  cases k with
  | zero => exact h
  | succ k => exact h3 k (by omega)
theorem Ends.same {S : Type} {f : S → S} {fin : S → Bool} {s s1 s2 : S} (h1 : Ends f fin s s1) (h2 : Ends f fin s s2) : s1 = s2 := by
  obtain ⟨n, a1, a2, a3⟩ := h1
  obtain ⟨m, b1, b2, b3⟩ := h2
  rcases Nat.lt_trichotomy n m with h | h | h
  · have := b3 n h; rw [a1, a2] at this; cases this
  · subst h; rw [← a1, ← b1]
  · have := a3 m h; rw [b1, b2] at this; cases this
theorem ends_of {S : Type} {f : S → S} {fin : S → Bool} (P : S → Prop) (m : S → Nat) (hs : ∀ s, P s → fin s = false → P (f s) ∧ m (f s) < m s) : ∀ (k : Nat) (s : S), m s ≤ k → P s → ∃ s', Ends f fin s s' ∧ P s' := by
  intro k
  induction k with
  | zero =>
    intro s hm hP
    cases hf : fin s with
    | true => exact ⟨s, Ends.here hf, hP⟩
    | false => have := (hs s hP hf).2; omega
  | succ k ih =>
    intro s hm hP
    cases hf : fin s with
    | true => exact ⟨s, Ends.here hf, hP⟩
    | false =>
      obtain ⟨h1, h2⟩ := hs s hP hf
      obtain ⟨s', g1, g2⟩ := ih (f s) (by omega) h1
      exact ⟨s', g1.step hf, g2⟩
theorem countP_same {l : List Nat} {p q : Nat → Bool} (h : ∀ x ∈ l, q x = p x) : l.countP q = l.countP p := by
  induction l with
  | nil => rfl
  | cons a l ih =>
    rw [List.countP_cons, List.countP_cons, ih (fun x hx => h x (List.mem_cons_of_mem _ hx)), h a List.mem_cons_self]
theorem countP_one {l : List Nat} (hl : l.Nodup) {p q : Nat → Bool} {c : Nat} (hc : c ∈ l) (h : ∀ x, x ≠ c → q x = p x) (hp : p c = false) (hq : q c = true) : l.countP q = l.countP p + 1 := by
  induction l with
  | nil => cases hc
  | cons a l ih =>
    rw [List.nodup_cons] at hl
    rw [List.countP_cons, List.countP_cons]
    by_cases e : a = c
    · subst e
      rw [countP_same (l := l) (p := p) (q := q) (fun x hx => h x (fun e => hl.1 (e ▸ hx))), hp, hq]
      simp
    · have hc' : c ∈ l := by
        rcases List.mem_cons.1 hc with h | h
        · exact absurd h.symm e
        · exact h
      rw [ih hl.2 hc', h a e]
      omega
def unsB (r : Rn) (c : Nat) : Bool := decide ((r.tk c).st ≠ 3)
def waitB (r : Rn) (c : Nat) : Bool := decide ((r.tk c).st ≠ 3) && (decide (0 ≤ (r.tk c).wt) && decide ((r.tk (r.tk c).wt.toNat).st ≠ 3))
def cu (r : Rn) : Nat := (List.range 48).countP (unsB r)
def cw (r : Rn) : Nat := (List.range 48).countP (waitB r)
theorem cu_le (r : Rn) : cu r ≤ 48 := by
  have := List.countP_le_length (p := unsB r) (l := List.range 48)
  rw [List.length_range] at this; exact this
theorem cw_le (r : Rn) : cw r ≤ 48 := by
  have := List.countP_le_length (p := waitB r) (l := List.range 48)
  rw [List.length_range] at this; exact this
def msr (r : Rn) : Nat := 49 * cu r + (48 - cw r)
theorem msr_le (r : Rn) : msr r ≤ 2400 := by have := cu_le r; unfold msr; omega
theorem frm_settled {r r' : Rn} {c : Nat} (hf : Frm r r' c) (hlt : c < 48) (h : (r.tk c).st ≠ 3) (h' : (r'.tk c).st = 3) : msr r' < msr r := by
  have h1 : cu r = cu r' + 1 := by
    refine countP_one List.nodup_range (List.mem_range.2 hlt) (fun x hx => ?_) ?_ ?_
    · unfold unsB; rw [hf.tk x hx]
    · simp [unsB, h']
    · simp [unsB, h]
  have := cw_le r'
  unfold msr
  omega
theorem frm_waits {r r' : Rn} {c o : Nat} (hf : Frm r r' c) (hlt : c < 48) (h : waitB r c = false) (hu : (r.tk c).st ≠ 3) (hw : Waits r' c o) : msr r' < msr r := by
  have hst : ∀ x, ((r'.tk x).st ≠ 3) ↔ ((r.tk x).st ≠ 3) := by
    intro x
    by_cases hx : x = c
    · subst hx; exact ⟨fun _ => hu, fun _ => hw.mine⟩
    · rw [hf.tk x hx]
  have h1 : cu r' = cu r := countP_same fun x _ => by unfold unsB; rw [decide_eq_decide]; exact hst x
  have h2 : cw r' = cw r + 1 := by
    refine countP_one List.nodup_range (List.mem_range.2 hlt) (fun x hx => ?_) h ?_
    · unfold waitB
      rw [hf.tk x hx]
      congr 2
      rw [decide_eq_decide]
      exact hst _
    · unfold waitB
      rw [hw.wt]
      simp [hw.mine, hw.open']
  have := cw_le r'
  unfold msr
  omega
theorem no_ring {wt : Nat → Int} (h : EndW wt) {x m : Nat} (hr : along wt (m + 1) x = x) : False := by
  have add : ∀ (a b : Nat) (y : Int), along wt (a + b) y = along wt b (along wt a y) := by
    intro a
    induction a with
    | zero => intro b y; rw [Nat.zero_add]; rfl
    | succ a ih => intro b y; rw [Nat.succ_add]; exact ih b _
  have neg : ∀ n, along wt n (-1) = -1 := by
    intro n
    induction n with
    | zero => rfl
    | succ n ih => exact ih
  have loop : ∀ k, along wt (k * (m + 1)) x = x := by
    intro k
    induction k with
    | zero => rw [Nat.zero_mul]; rfl
    | succ k ih => rw [Nat.succ_mul, add, ih, hr]
  obtain ⟨n, hn⟩ := h x
  have h1 := loop n
  have : n * (m + 1) = n + n * m := by rw [Nat.mul_add, Nat.mul_one, Nat.add_comm]
  rw [this, add, hn, neg] at h1
  omega
def Stk (r : Rn) : List Nat → Prop
  | [] => True
  | [_] => True
  | a :: b :: t => (r.tk b).wt = a ∧ (r.tk b).st ≠ 3 ∧ Stk r (b :: t)
structure SI (r : Rn) (l : List Nat) : Prop where
  stk : Stk r l
  nd : l.Nodup
  lt : ∀ x ∈ l, x < 48
  only : ∀ x, waitB r x = true → x ∈ l.tail
theorem Stk.along {r : Rn} : ∀ (l : List Nat) (a : Nat), Stk r (a :: l) → ∀ x ∈ l, ∃ m, along r.wts (m + 1) x = a
  | [], _, _, x, hx => by cases hx
  | b :: t, a, ⟨h1, h2, h3⟩, x, hx => by
    rcases List.mem_cons.1 hx with rfl | hx
    · refine ⟨0, ?_⟩
      show (if 0 ≤ (x : Int) then r.wts (x : Int).toNat else -1) = a
      rw [if_pos (by omega), Int.toNat_natCast]; exact h1
    · obtain ⟨m, hm⟩ := Stk.along t b h3 x hx
      refine ⟨m + 1, ?_⟩
      have add : ∀ (a b : Nat) (y : Int), Go.Proofs.YtlpmmmmniojflaaGreatDoor.along r.wts (a + b) y = Go.Proofs.YtlpmmmmniojflaaGreatDoor.along r.wts b (Go.Proofs.YtlpmmmmniojflaaGreatDoor.along r.wts a y) := by
        intro a
        induction a with
        | zero => intro b y; rw [Nat.zero_add]; rfl
        | succ a ih => intro b y; rw [Nat.succ_add]; exact ih b _
      rw [show m + 1 + 1 = (m + 1) + 1 from rfl, add, hm]
      show (if 0 ≤ (b : Int) then r.wts (b : Int).toNat else -1) = a
      rw [if_pos (by omega), Int.toNat_natCast]; exact h1
theorem Stk.frm {r r' : Rn} {c : Nat} (hf : Frm r r' c) : ∀ (l : List Nat), c ∉ l.tail → Stk r l → Stk r' l
  | [], _, _ => trivial
  | [_], _, _ => trivial
  | a :: b :: t, hn, ⟨h1, h2, h3⟩ => by
    have hb : b ≠ c := fun e => hn (by rw [e]; exact List.mem_cons_self)
    refine ⟨by rw [hf.tk b hb]; exact h1, by rw [hf.tk b hb]; exact h2, Stk.frm hf (b :: t) (fun hm => hn ?_) h3⟩
    exact List.mem_cons_of_mem _ hm
section
variable {E : Env} {val : Nat → V} {S0 : Con} {Cl : Nat → Prop} {X : Nat → Ans → Prop} {r r' : Rn} {cs : List Nat} {c o : Nat} {t : List Nat}
theorem SI.first (h : SI r (c :: t)) : waitB r c = false := by
  cases e : waitB r c with
  | false => rfl
  | true => exact absurd (h.only c e) (List.nodup_cons.1 h.nd).1
theorem SI.fail (h : SI r (c :: t)) (hi : Inv E val S0 Cl X r' cs) (hf : Frm r r' c) (hu : (r.tk c).st ≠ 3) (hw : Waits r' c o) : SI r' (o :: c :: t) := by
  have hct := (List.nodup_cons.1 h.nd).1
  have hs : Stk r' (c :: t) := Stk.frm hf _ hct h.stk
  have ho : o ∉ t := by
    intro hm
    obtain ⟨m, hm⟩ := Stk.along t c hs o hm
    refine no_ring hi.ends (x := c) (m := m + 1) ?_
    show along r'.wts (m + 1) (if 0 ≤ (c : Int) then r'.wts (c : Int).toNat else -1) = c
    rw [if_pos (by omega), Int.toNat_natCast]
    show along r'.wts (m + 1) (r'.tk c).wt = c
    rw [hw.wt]; exact hm
  refine { stk := ⟨hw.wt, hw.mine, hs⟩, nd := ?_, lt := ?_, only := ?_ }
  · rw [List.nodup_cons]
    refine ⟨fun hm => ?_, h.nd⟩
    rcases List.mem_cons.1 hm with e | hm
    · exact hw.ne e
    · exact ho hm
  · intro x hx
    rcases List.mem_cons.1 hx with rfl | hx
    · exact hw.lt
    · exact h.lt x hx
  · intro x hx
    show x ∈ c :: t
    by_cases e : x = c
    · rw [e]; exact List.mem_cons_self
    · have : waitB r x = true := by
        unfold waitB at hx ⊢
        rw [hf.tk x e] at hx
        simp only [Bool.and_eq_true, decide_eq_true_eq] at hx ⊢
        refine ⟨hx.1, hx.2.1, ?_⟩
        by_cases e2 : (r.tk x).wt.toNat = c
        · rw [e2]; exact hu
        · rw [← hf.tk _ e2]; exact hx.2.2
      exact List.mem_cons_of_mem _ (h.only x this)
theorem SI.pop (h : SI r (c :: t)) (hf : Frm r r' c) (h3 : (r'.tk c).st = 3) : SI r' t := by
  have hct := (List.nodup_cons.1 h.nd).1
  have hs : Stk r' (c :: t) := Stk.frm hf _ hct h.stk
  refine { stk := ?_, nd := (List.nodup_cons.1 h.nd).2, lt := fun x hx => h.lt x (List.mem_cons_of_mem _ hx), only := ?_ }
  · cases t with
    | nil => trivial
    | cons b t => exact hs.2.2
  · intro x hx
    have e : x ≠ c := by
      intro e
      subst e
      simp [waitB, h3] at hx
    unfold waitB at hx
    simp only [Bool.and_eq_true, decide_eq_true_eq] at hx
    have e2 : (r'.tk x).wt.toNat ≠ c := by
      intro e2
      rw [e2] at hx
      exact hx.2.2 h3
    have : waitB r x = true := by
      unfold waitB
      rw [hf.tk x e] at hx e2
      rw [hf.tk _ e2] at hx
      simp only [Bool.and_eq_true, decide_eq_true_eq]
      exact hx
    have hm : x ∈ t := h.only x this
    cases t with
    | nil => cases hm
    | cons b t =>
      rcases List.mem_cons.1 hm with rfl | hm
      · exfalso
        have : (r'.tk x).wt = c := hs.1
        rw [this] at e2
        exact e2 (Int.toNat_natCast c)
      · exact hm
theorem SI.leave {l : List Nat} (h : SI r l) (h3 : (r.tk c).st ≠ 3) : SI (leaveP r c) l := by
  have hst : ∀ x, (((leaveP r c).tk x).st ≠ 3) ↔ ((r.tk x).st ≠ 3) := by
    intro x
    unfold leaveP
    by_cases hx : x = c
    · subst hx; rw [put_same]; exact ⟨fun _ => h3, fun _ => by show 0 ≠ 3; decide⟩
    · rw [put_ne _ _ _ hx]
  have hwt : ∀ x, ((leaveP r c).tk x).wt = (r.tk x).wt := by
    intro x
    unfold leaveP
    by_cases hx : x = c
    · subst hx; rw [put_same]
    · rw [put_ne _ _ _ hx]
  have hwb : ∀ x, waitB (leaveP r c) x = waitB r x := by
    intro x
    unfold waitB
    rw [hwt x]
    congr 1
    · rw [decide_eq_decide]; exact hst x
    · congr 1
      rw [decide_eq_decide]; exact hst _
  refine { stk := ?_, nd := h.nd, lt := h.lt, only := fun x hx => h.only x (by rw [← hwb]; exact hx) }
  have : ∀ l, Stk r l → Stk (leaveP r c) l := by
    intro l
    induction l with
    | nil => intro _; trivial
    | cons a l ih =>
      cases l with
      | nil => intro _; trivial
      | cons b l => intro ⟨g1, g2, g3⟩; exact ⟨by rw [hwt]; exact g1, (hst b).2 g2, ih g3⟩
  exact this _ h.stk
theorem msr_leave (h3 : (r.tk c).st ≠ 3) : msr (leaveP r c) = msr r := by
  have hst : ∀ x, (((leaveP r c).tk x).st ≠ 3) ↔ ((r.tk x).st ≠ 3) := by
    intro x
    unfold leaveP
    by_cases hx : x = c
    · subst hx; rw [put_same]; exact ⟨fun _ => h3, fun _ => by show 0 ≠ 3; decide⟩
    · rw [put_ne _ _ _ hx]
  have hwt : ∀ x, ((leaveP r c).tk x).wt = (r.tk x).wt := by
    intro x
    unfold leaveP
    by_cases hx : x = c
    · subst hx; rw [put_same]
    · rw [put_ne _ _ _ hx]
  have h1 : cu (leaveP r c) = cu r := countP_same fun x _ => by unfold unsB; rw [decide_eq_decide]; exact hst x
  have h2 : cw (leaveP r c) = cw r := countP_same fun x _ => by
    unfold waitB
    rw [hwt x]
    congr 1
    · rw [decide_eq_decide]; exact hst x
    · congr 1
      rw [decide_eq_decide]; exact hst _
  unfold msr
  rw [h1, h2]
end
theorem turn_less {E : Env} {val : Nat → V} {S0 : Con} {Cl : Nat → Prop} {X : Nat → Ans → Prop} {r : Rn} {cs : List Nat} {c : Nat} (hi : Inv E val S0 Cl X r cs) (hu : (r.tk c).st ≠ 3) (hb : waitB r c = false)
    {t : Rn × Int × Bool} (ht : Turned r c t) : msr t.1 < msr r := by
  have hlt := (hi.uns c hu).lt
  rcases ht.out with ⟨_, _, h⟩ | ⟨_, o, _, h⟩
  · exact frm_settled ht.frm hlt hu h
  · exact frm_waits ht.frm hlt hb hu h
theorem turn_settled {E : Env} {r : Rn} {c : Nat} (h : (r.tk c).st = 3) : turnP E r c = (r, (r.tk c).wt, true) := by
  unfold turnP
  rw [if_neg (by omega), if_neg (by omega), if_neg (by omega)]
  simp [h]
end Go.Proofs.YtlpmmmmniojflaaGreatDoor
