/- Plain mathematics: one working out of a sheet, as the program goes about it: the state of its cells, what a cell's turn does, and what stays true of it. No program stands in it. -/
import Derived.Test.YtlpmmmmniojflaaGreatDoorQ00
set_option linter.unusedVariables false
set_option linter.unusedSimpArgs false
namespace Go.Proofs.YtlpmmmmniojflaaGreatDoor
structure Ans where
  f : ByteArray
  rs : List Rd
  v : V
def ans0 : Ans := ⟨eB, [], vN⟩
structure Sto where
  places : Nat
  size : Nat
  next : Nat
  kept : List Ans
def Sto.add (s : Sto) (a : Ans) : Sto := if s.places = 0 then s else ⟨s.places, min (s.size + 1) s.places, (s.next + 1) % s.places, s.kept.set s.next a⟩
def Sto.has (s : Sto) : List Ans := s.kept.take s.size
structure SW (s : Sto) : Prop where
  len : s.kept.length = 64
  places : s.places ≤ 64
  size : s.size ≤ s.places
  next : s.places ≠ 0 → s.next < s.places
  open' : s.size < s.places → s.next = s.size
def Sto.of (s : Sto) (f : ByteArray) : List Ans := s.has.filter (fun a => decide (a.f = f))
structure Tsk where
  st : Nat
  wt : Int
  kn : List Ans
  held : Nat
  d : Beh
  an : Ans
structure Rn where
  fs : Nat → ByteArray
  last : Nat → Ans
  store : Sto
  way : Nat
  tk : Nat → Tsk
  bg : List Nat
structure Con extends Sto where
  fs : Nat → ByteArray
  last : Nat → Ans
  way : Nat
structure Env where
  D : ByteArray → Beh
  B : ByteArray → Nat
  W : (Nat → Int) → Nat → Nat → Bool
def Rn.put (r : Rn) (c : Nat) (t : Tsk) : Rn := { r with tk := fun i => if i = c then t else r.tk i }
def Rn.wts (r : Rn) : Nat → Int := fun i => (r.tk i).wt
def settle (r : Rn) (c : Nat) (a : Ans) : Rn := r.put c ⟨3, -1, [], 0, retA vN, a⟩
def stays (r : Rn) (c : Nat) : Bool := decide ((r.last c).f = r.fs c) && !(r.last c).v.eqB cyc
def known (r : Rn) (c : Nat) : List Ans :=
  if r.way = 0 then [] else (if stays r c = true then [r.last c] else []) ++ (if r.way = 2 then r.store.of (r.fs c) else [])
def look (E : Env) (r : Rn) (c o : Nat) : Rn × Option V :=
  if (r.tk o).st = 3 then (r, some (r.tk o).an.v)
  else if E.W r.wts o c = true then (r, some cyc)
  else (r.put c { r.tk c with wt := o }, none)
def tryR (E : Env) (c : Nat) : List Rd → Rn → Rn × Option Bool
  | [], r => (r, some true)
  | x :: l, r =>
    match look E r c x.nd.c with
    | (r', none) => (r', none)
    | (r', some v) => if (see x.nd v).eqB x.w = true then tryR E c l (r'.put c { r'.tk c with held := (r'.tk c).held + 1 }) else (r', some false)
def tryK (E : Env) (c : Nat) : List Ans → Rn → Rn × Bool
  | [], r => (r, true)
  | a :: l, r =>
    match tryR E c (a.rs.drop (r.tk c).held) r with
    | (r', none) => (r', false)
    | (r', some true) => (settle r' c a, true)
    | (r', some false) => tryK E c l (r'.put c { r'.tk c with kn := l, held := 0 })
def beginP (E : Env) (r : Rn) (c : Nat) : Rn :=
  { r.put c { r.tk c with st := 2, d := E.D (r.fs c), an := ⟨r.fs c, [], vN⟩ } with bg := r.bg ++ [c] }
def runP (E : Env) (c : Nat) : Nat → Rn → Rn
  | 0, r => r
  | n + 1, r =>
    match (r.tk c).d [] with
    | .inl v => settle { r with store := r.store.add { (r.tk c).an with v := v } } c { (r.tk c).an with v := v }
    | .inr nd =>
      match look E r c nd.c with
      | (r', none) => r'
      | (r', some v) =>
        if v.eqB cyc = true then settle r' c ⟨r'.fs c, [], v⟩
        else runP E c n (r'.put c { r'.tk c with d := fun l => (r'.tk c).d (see nd v :: l), an := { (r'.tk c).an with rs := (r'.tk c).an.rs ++ [⟨nd, see nd v⟩] } })
def runT (E : Env) (r : Rn) (c : Nat) : Rn × Int × Bool :=
  let r' := runP E c (E.B (r.fs c) + 1) r
  (r', (r'.tk c).wt, decide ((r'.tk c).st = 3))
def tryT (E : Env) (r : Rn) (c : Nat) : Rn × Int × Bool :=
  match tryK E c (r.tk c).kn r with
  | (r', false) => (r', (r'.tk c).wt, false)
  | (r', true) => if (r'.tk c).st = 3 then (r', -1, true) else runT E (beginP E r' c) c
def freshP (r : Rn) (c : Nat) : Rn := r.put c { r.tk c with kn := (r.tk c).kn ++ known r c, st := 1 }
def turnP (E : Env) (r : Rn) (c : Nat) : Rn × Int × Bool :=
  if (r.tk c).st = 0 then tryT E (freshP r c) c
  else if (r.tk c).st = 1 then tryT E r c
  else if (r.tk c).st = 2 then runT E r c
  else (r, (r.tk c).wt, decide ((r.tk c).st = 3))
def leaveP (r : Rn) (c : Nat) : Rn := r.put c { r.tk c with st := 0 }
def VA (E : Env) (a : Ans) : Prop := a.f ≠ eB ∧ Tr (E.D a.f) a.rs ∧ E.D a.f (ws a.rs) = .inl a.v ∧ ∀ x ∈ a.rs, x.w ≠ cyc ∧ x.nd.c < 48
def Org (S0 : Con) (r : Rn) (cs : List Nat) (c : Nat) (a : Ans) : Prop := (stays r c = true ∧ a = r.last c) ∨ a ∈ S0.has ∨ ∃ c' ∈ cs, a = (r.tk c').an
structure SetOK (E : Env) (val : Nat → V) (r : Rn) (c : Nat) : Prop where
  wt : (r.tk c).wt = -1
  f : (r.tk c).an.f = r.fs c
  v : (r.tk c).an.v = val c
  good : r.fs c ≠ eB → val c ≠ cyc → VA E (r.tk c).an ∧ Hold val (r.tk c).an.rs
  none : r.fs c = eB → (r.tk c).an = ans0
structure UnsOK (E : Env) (val : Nat → V) (S0 : Con) (r : Rn) (cs : List Nat) (c : Nat) : Prop where
  f : r.fs c ≠ eB
  lt : c < 48
  kn : ∀ a ∈ (r.tk c).kn, VA E a ∧ a.f = r.fs c ∧ Org S0 r cs c a
  held : ∀ a l, (r.tk c).kn = a :: l → (r.tk c).held ≤ a.rs.length ∧ Hold val (a.rs.take (r.tk c).held)
  held0 : (r.tk c).kn = [] → (r.tk c).held = 0
  run : (r.tk c).st = 2 → (r.tk c).an.f = r.fs c ∧ Tr (E.D (r.fs c)) (r.tk c).an.rs ∧ Hold val (r.tk c).an.rs ∧ (r.tk c).d = (fun l => E.D (r.fs c) (ws (r.tk c).an.rs ++ l)) ∧ (r.tk c).kn = [] ∧ c ∈ r.bg
def EndW (wt : Nat → Int) : Prop := ∀ x : Nat, ∃ n, along wt n x = -1
def RightW (E : Env) : Prop := ∀ wt, EndW wt → ∀ o c : Nat, (E.W wt o c = true ↔ ∃ m, along wt m o = c)
structure Inv (E : Env) (val : Nat → V) (S0 : Con) (Cl : Nat → Prop) (X : Nat → Ans → Prop) (r : Rn) (cs : List Nat) : Prop where
  hv : ∀ c, Val E.D r.fs c (val c)
  fit : ∀ c, r.fs c ≠ eB → ActN (E.B (r.fs c)) (E.D (r.fs c))
  con : r.fs = S0.fs ∧ r.last = S0.last ∧ r.way = S0.way
  st : ∀ c, (r.tk c).st ≤ 3
  sett : ∀ c, (r.tk c).st = 3 → SetOK E val r c
  uns : ∀ c, (r.tk c).st ≠ 3 → UnsOK E val S0 r cs c
  wt : ∀ c : Nat, -1 ≤ (r.tk c).wt ∧ (0 ≤ (r.tk c).wt → Needs E.D r.fs c (r.tk c).wt.toNat ∧ (r.tk c).wt.toNat < 48)
  ends : EndW r.wts
  sto : r.store = (cs.map fun c => (r.tk c).an).foldl Sto.add S0.toSto
  sw : SW r.store
  stoOK : ∀ a ∈ r.store.has, VA E a ∧ (a ∈ S0.has ∨ ∃ c' ∈ cs, a = (r.tk c').an)
  lastOK : ∀ c, stays r c = true → r.fs c ≠ eB → VA E (r.last c)
  nodup : cs.Nodup
  csOK : ∀ c ∈ cs, (r.tk c).st = 3 ∧ c ∈ r.bg
  bg : ∀ c ∈ r.bg, r.fs c ≠ eB ∧ c < 48 ∧ ¬ Cl c
  bgE : r.bg = [] → cs = []
  done : ∀ c, (r.tk c).st = 3 → r.fs c ≠ eB → (val c = cyc ∧ c ∈ r.bg) ∨ Cl c ∨ ∃ a, a.f = r.fs c ∧ Hold val a.rs ∧ Org S0 r cs c a
  cl : ∀ c, (r.tk c).st ≠ 3 → ¬ Cl c
  x : ∀ c a, X c a → c ∉ r.bg ∧ (r.tk c).st ≠ 2 ∧ ((r.tk c).st = 1 → a ∈ (r.tk c).kn)
def XK (E : Env) (val : Nat → V) (S0 : Con) (Cl : Nat → Prop) (X : Nat → Ans → Prop) : Prop :=
  ∀ r cs, Inv E val S0 Cl X r cs → ∀ c a, X c a → Hold val a.rs ∧ ((r.tk c).st ≠ 3 → a ∈ known r c)
theorem put_same (r : Rn) (c : Nat) (t : Tsk) : (r.put c t).tk c = t := by simp [Rn.put]
theorem put_ne (r : Rn) (c : Nat) (t : Tsk) {i : Nat} (h : i ≠ c) : (r.put c t).tk i = r.tk i := by simp [Rn.put, h]
theorem put_put (r : Rn) (c : Nat) (t u : Tsk) : (r.put c t).put c u = r.put c u := by
  unfold Rn.put
  congr 1
  funext i
  by_cases h : i = c <;> simp [h]
theorem put_self (r : Rn) (c : Nat) : r.put c (r.tk c) = r := by
  unfold Rn.put
  cases r
  congr 1
  funext i
  by_cases h : i = c <;> simp [h]
theorem endW_upd {wt wt' : Nat → Int} {c : Nat} (h : EndW wt) (hne : ∀ i, i ≠ c → wt' i = wt i) (hc : ∃ n, along wt' n c = -1) : EndW wt' := by
  have neg : ∀ (w : Nat → Int) (n : Nat), along w n (-1) = -1 := by
    intro w n
    induction n with
    | zero => rfl
    | succ n ih => exact ih
  intro x
  obtain ⟨n, hn⟩ := h x
  induction n generalizing x with
  | zero => exact absurd (show (x : Int) = -1 from hn) (by omega)
  | succ n ih =>
    by_cases hx : x = c
    · rw [hx]; exact hc
    · have hn : along wt n (if 0 ≤ (x : Int) then wt (x : Int).toNat else -1) = -1 := hn
      rw [if_pos (by omega), Int.toNat_natCast] at hn
      by_cases h0 : 0 ≤ wt x
      · obtain ⟨m, hm⟩ := ih (wt x).toNat (by rw [Int.toNat_of_nonneg h0]; exact hn)
        refine ⟨m + 1, ?_⟩
        show along wt' m (if 0 ≤ (x : Int) then wt' (x : Int).toNat else -1) = -1
        rw [if_pos (by omega), Int.toNat_natCast, hne x hx, ← Int.toNat_of_nonneg h0]
        exact hm
      · refine ⟨1 + 1, ?_⟩
        show (if 0 ≤ (if 0 ≤ (x : Int) then wt' (x : Int).toNat else -1) then wt' (if 0 ≤ (x : Int) then wt' (x : Int).toNat else -1).toNat else -1) = -1
        rw [if_pos (show 0 ≤ (x : Int) by omega), Int.toNat_natCast, hne x hx, if_neg h0]
theorem endW_none {wt wt' : Nat → Int} {c : Nat} (h : EndW wt) (hne : ∀ i, i ≠ c → wt' i = wt i) (hc : wt' c = -1) : EndW wt' := by
  refine endW_upd h hne ⟨1, ?_⟩
  show (if 0 ≤ (c : Int) then wt' (c : Int).toNat else -1) = -1
  rw [if_pos (by omega), Int.toNat_natCast, hc]
theorem along_same {wt wt' : Nat → Int} {c : Nat} (hne : ∀ i, i ≠ c → wt' i = wt i) : ∀ (n : Nat) (x : Int), (¬ ∃ m, along wt m x = c) → along wt' n x = along wt n x
  | 0, _, _ => rfl
  | n + 1, x, h => by
    show along wt' n (if 0 ≤ x then wt' x.toNat else -1) = along wt n (if 0 ≤ x then wt x.toNat else -1)
    by_cases h0 : 0 ≤ x
    · rw [if_pos h0, if_pos h0]
      have hx : x.toNat ≠ c := by
        intro e; exact h ⟨0, by show x = c; omega⟩
      rw [hne _ hx]
      refine along_same hne n _ fun ⟨m, hm⟩ => h ⟨m + 1, ?_⟩
      show along wt m (if 0 ≤ x then wt x.toNat else -1) = c
      rw [if_pos h0]; exact hm
    · rw [if_neg h0, if_neg h0]
      refine along_same hne n _ fun ⟨m, hm⟩ => ?_
      have : ∀ m, along wt m (-1) = -1 := by
        intro m
        induction m with
        | zero => rfl
        | succ m ih => exact ih
      rw [this m] at hm
      omega
theorem endW_wait {wt wt' : Nat → Int} {c o : Nat} (h : EndW wt) (hne : ∀ i, i ≠ c → wt' i = wt i) (hc : wt' c = o) (hno : ¬ ∃ m, along wt m o = c) : EndW wt' := by
  obtain ⟨n, hn⟩ := h o
  refine endW_upd h hne ⟨n + 1, ?_⟩
  show along wt' n (if 0 ≤ (c : Int) then wt' (c : Int).toNat else -1) = -1
  rw [if_pos (by omega), Int.toNat_natCast, hc, along_same hne n o hno]
  exact hn
section
variable {E : Env} {val : Nat → V} {S0 : Con} {Cl : Nat → Prop} {X : Nat → Ans → Prop} {r : Rn} {cs : List Nat} {c : Nat}
theorem Inv.Fit (h : Inv E val S0 Cl X r cs) : Fit E.D r.fs := fun c h0 => ⟨_, h.fit c h0⟩
theorem Inv.notcs (h : Inv E val S0 Cl X r cs) (hc : (r.tk c).st ≠ 3) : c ∉ cs := fun hm => hc (h.csOK c hm).1
theorem Org.put {a : Ans} {i : Nat} (t : Tsk) (hc : c ∉ cs) (h : Org S0 r cs i a) : Org S0 (r.put c t) cs i a := by
  rcases h with h | h | ⟨c', h1, h2⟩
  · exact .inl h
  · exact .inr (.inl h)
  · have hne : c' ≠ c := fun e => hc (e ▸ h1)
    refine .inr (.inr ⟨c', h1, ?_⟩)
    rw [put_ne _ _ _ hne]; exact h2
theorem UnsOK.put {i : Nat} (t : Tsk) (hc : c ∉ cs) (hi : i ≠ c) (h : UnsOK E val S0 r cs i) : UnsOK E val S0 (r.put c t) cs i where
  f := h.f
  lt := h.lt
  kn := by rw [put_ne _ _ _ hi]; exact fun a ha => ⟨(h.kn a ha).1, (h.kn a ha).2.1, (h.kn a ha).2.2.put t hc⟩
  held := by rw [put_ne _ _ _ hi]; exact h.held
  held0 := by rw [put_ne _ _ _ hi]; exact h.held0
  run := by rw [put_ne _ _ _ hi]; exact h.run
theorem SetOK.put {i : Nat} (t : Tsk) (hi : i ≠ c) (h : SetOK E val r i) : SetOK E val (r.put c t) i where
  wt := by rw [put_ne _ _ _ hi]; exact h.wt
  f := by rw [put_ne _ _ _ hi]; exact h.f
  v := by rw [put_ne _ _ _ hi]; exact h.v
  good := by rw [put_ne _ _ _ hi]; exact h.good
  none := by rw [put_ne _ _ _ hi]; exact h.none
theorem Inv.put (h : Inv E val S0 Cl X r cs) (hc : (r.tk c).st ≠ 3) (t : Tsk) (h3 : t.st < 3) (hu : UnsOK E val S0 (r.put c t) cs c)
    (hw : -1 ≤ t.wt ∧ (0 ≤ t.wt → Needs E.D r.fs c t.wt.toNat ∧ t.wt.toNat < 48)) (he : EndW (r.put c t).wts) (hx : ∀ a, X c a → t.st ≠ 2 ∧ (t.st = 1 → a ∈ t.kn)) : Inv E val S0 Cl X (r.put c t) cs := by
  have hn := h.notcs hc
  have hcs : ∀ c' ∈ cs, (r.put c t).tk c' = r.tk c' := fun c' hm => put_ne _ _ _ (fun e => hn (e ▸ hm))
  refine { hv := h.hv, fit := h.fit, con := h.con, st := ?_, sett := ?_, uns := ?_, wt := ?_, ends := he, sto := ?_, sw := h.sw, stoOK := ?_, lastOK := h.lastOK, nodup := h.nodup, csOK := ?_, bg := h.bg, bgE := h.bgE, done := ?_, cl := ?_, x := ?_ }
  · intro i
    by_cases hi : i = c
    · subst hi; rw [put_same]; omega
    · rw [put_ne _ _ _ hi]; exact h.st i
  · intro i
    by_cases hi : i = c
    · subst hi; rw [put_same]; intro e; omega
    · rw [put_ne _ _ _ hi]; intro e; exact (h.sett i e).put t hi
  · intro i
    by_cases hi : i = c
    · subst hi; intro _; exact hu
    · rw [put_ne _ _ _ hi]; intro e; exact (h.uns i e).put t hn hi
  · intro i
    by_cases hi : i = c
    · subst hi; rw [put_same]; exact hw
    · rw [put_ne _ _ _ hi]; exact h.wt i
  · show r.store = _
    rw [h.sto]
    congr 1
    exact List.map_congr_left fun c' hm => by rw [hcs c' hm]
  · intro a ha
    obtain ⟨h1, h2⟩ := h.stoOK a ha
    refine ⟨h1, ?_⟩
    rcases h2 with h2 | ⟨c', h2, h4⟩
    · exact .inl h2
    · exact .inr ⟨c', h2, by rw [hcs c' h2]; exact h4⟩
  · intro c' hm
    rw [hcs c' hm]; exact h.csOK c' hm
  · intro i
    by_cases hi : i = c
    · subst hi; rw [put_same]; intro e; omega
    · rw [put_ne _ _ _ hi]
      intro e f
      rcases h.done i e f with g | g | ⟨a, g1, g2, g3⟩
      · exact .inl g
      · exact .inr (.inl g)
      · exact .inr (.inr ⟨a, g1, g2, g3.put t hn⟩)
  · intro i
    by_cases hi : i = c
    · subst hi; intro _; exact h.cl _ hc
    · rw [put_ne _ _ _ hi]; exact h.cl i
  · intro i a hxa
    by_cases hi : i = c
    · subst hi; rw [put_same]; exact ⟨(h.x _ a hxa).1, hx a hxa⟩
    · rw [put_ne _ _ _ hi]; exact h.x i a hxa
theorem Inv.settled (h : Inv E val S0 Cl X r cs) (hc : (r.tk c).st ≠ 3) (a : Ans) (hf : a.f = r.fs c) (hv : a.v = val c) (hg : val c ≠ cyc → VA E a ∧ Hold val a.rs)
    (hd : (val c = cyc ∧ c ∈ r.bg) ∨ ∃ a, a.f = r.fs c ∧ Hold val a.rs ∧ Org S0 r cs c a) : Inv E val S0 Cl X (settle r c a) cs := by
  have hn := h.notcs hc
  have hcs : ∀ c' ∈ cs, (Go.Proofs.YtlpmmmmniojflaaGreatDoor.settle r c a).tk c' = r.tk c' := fun c' hm => put_ne _ _ _ (fun e => hn (e ▸ hm))
  refine { hv := h.hv, fit := h.fit, con := h.con, st := ?_, sett := ?_, uns := ?_, wt := ?_, ends := ?_, sto := ?_, sw := h.sw, stoOK := ?_, lastOK := h.lastOK, nodup := h.nodup, csOK := ?_, bg := h.bg, bgE := h.bgE, done := ?_, cl := ?_, x := ?_ }
  · intro i
    by_cases hi : i = c
    · subst hi; unfold Go.Proofs.YtlpmmmmniojflaaGreatDoor.settle; rw [put_same]; exact Nat.le_refl _
    · unfold Go.Proofs.YtlpmmmmniojflaaGreatDoor.settle; rw [put_ne _ _ _ hi]; exact h.st i
  · intro i
    by_cases hi : i = c
    · subst hi
      intro _
      unfold Go.Proofs.YtlpmmmmniojflaaGreatDoor.settle
      exact { wt := by rw [put_same], f := by rw [put_same]; exact hf, v := by rw [put_same]; exact hv, good := fun _ g => by rw [put_same]; exact hg g, none := fun e => absurd e (h.uns _ hc).f }
    · unfold Go.Proofs.YtlpmmmmniojflaaGreatDoor.settle; rw [put_ne _ _ _ hi]; intro e; exact (h.sett i e).put _ hi
  · intro i
    by_cases hi : i = c
    · subst hi; unfold Go.Proofs.YtlpmmmmniojflaaGreatDoor.settle; rw [put_same]; intro e; exact absurd rfl e
    · unfold Go.Proofs.YtlpmmmmniojflaaGreatDoor.settle; rw [put_ne _ _ _ hi]; intro e; exact (h.uns i e).put _ hn hi
  · intro i
    by_cases hi : i = c
    · subst hi; unfold Go.Proofs.YtlpmmmmniojflaaGreatDoor.settle; rw [put_same]; exact ⟨Int.le_refl _, fun e => absurd e (by simp)⟩
    · unfold Go.Proofs.YtlpmmmmniojflaaGreatDoor.settle; rw [put_ne _ _ _ hi]; exact h.wt i
  · refine endW_none (c := c) h.ends (fun i hi => ?_) ?_
    · show ((Go.Proofs.YtlpmmmmniojflaaGreatDoor.settle r c a).tk i).wt = (r.tk i).wt
      unfold Go.Proofs.YtlpmmmmniojflaaGreatDoor.settle; rw [put_ne _ _ _ hi]
    · show ((Go.Proofs.YtlpmmmmniojflaaGreatDoor.settle r c a).tk c).wt = -1
      unfold Go.Proofs.YtlpmmmmniojflaaGreatDoor.settle; rw [put_same]
  · show r.store = _
    rw [h.sto]
    congr 1
    exact List.map_congr_left fun c' hm => by rw [hcs c' hm]
  · intro b hb
    obtain ⟨h1, h2⟩ := h.stoOK b hb
    refine ⟨h1, ?_⟩
    rcases h2 with h2 | ⟨c', h2, h4⟩
    · exact .inl h2
    · exact .inr ⟨c', h2, by rw [hcs c' h2]; exact h4⟩
  · intro c' hm
    rw [hcs c' hm]; exact h.csOK c' hm
  · intro i
    by_cases hi : i = c
    · subst hi
      intro _ _
      rcases hd with g | ⟨b, g1, g2, g3⟩
      · exact .inl g
      · exact .inr (.inr ⟨b, g1, g2, g3.put _ hn⟩)
    · unfold Go.Proofs.YtlpmmmmniojflaaGreatDoor.settle
      rw [put_ne _ _ _ hi]
      intro e f
      rcases h.done i e f with g | g | ⟨b, g1, g2, g3⟩
      · exact .inl g
      · exact .inr (.inl g)
      · exact .inr (.inr ⟨b, g1, g2, g3.put _ hn⟩)
  · intro i
    by_cases hi : i = c
    · subst hi; unfold Go.Proofs.YtlpmmmmniojflaaGreatDoor.settle; rw [put_same]; intro e; exact absurd rfl e
    · unfold Go.Proofs.YtlpmmmmniojflaaGreatDoor.settle; rw [put_ne _ _ _ hi]; exact h.cl i
  · intro i b hxb
    by_cases hi : i = c
    · subst hi; unfold Go.Proofs.YtlpmmmmniojflaaGreatDoor.settle; rw [put_same]; exact ⟨(h.x _ b hxb).1, by simp, by simp⟩
    · unfold Go.Proofs.YtlpmmmmniojflaaGreatDoor.settle; rw [put_ne _ _ _ hi]; exact h.x i b hxb
structure Frm (r r' : Rn) (c : Nat) : Prop where
  fs : r'.fs = r.fs
  last : r'.last = r.last
  way : r'.way = r.way
  tk : ∀ i, i ≠ c → r'.tk i = r.tk i
theorem Frm.refl (r : Rn) (c : Nat) : Frm r r c := ⟨rfl, rfl, rfl, fun _ _ => rfl⟩
theorem Frm.put (r : Rn) (c : Nat) (t : Tsk) : Frm r (r.put c t) c := ⟨rfl, rfl, rfl, fun _ h => put_ne _ _ _ h⟩
theorem Frm.trans {r r' r'' : Rn} {c : Nat} (h : Frm r r' c) (g : Frm r' r'' c) : Frm r r'' c :=
  ⟨g.fs.trans h.fs, g.last.trans h.last, g.way.trans h.way, fun i hi => (g.tk i hi).trans (h.tk i hi)⟩
structure Waits (r : Rn) (c o : Nat) : Prop where
  wt : (r.tk c).wt = o
  lt : o < 48
  ne : o ≠ c
  open' : (r.tk o).st ≠ 3
  mine : (r.tk c).st ≠ 3
theorem look_ok (hW : RightW E) (h : Inv E val S0 Cl X r cs) (hc : (r.tk c).st ≠ 3) {o : Nat} (hn : Needs E.D r.fs c o) (ho : o < 48) :
    (look E r c o = (r, some (val o))) ∨ (look E r c o = (r.put c { r.tk c with wt := o }, none) ∧ Inv E val S0 Cl X (r.put c { r.tk c with wt := o }) cs ∧ Waits (r.put c { r.tk c with wt := o }) c o) := by
  unfold look
  by_cases h3 : (r.tk o).st = 3
  · left; rw [if_pos h3, (h.sett o h3).v]
  · rw [if_neg h3]
    by_cases hw : E.W r.wts o c = true
    · left
      rw [if_pos hw]
      obtain ⟨m, hm⟩ := (hW _ h.ends o c).1 hw
      rw [ring_cyc h.hv (wt := r.wts) (fun x hx => ((h.wt x).2 hx).1) hm hn]
    · right
      rw [if_neg hw]
      have hno : ¬ ∃ m, along r.wts m o = c := fun hm => hw ((hW _ h.ends o c).2 hm)
      have hu := h.uns c hc
      have hoc : o ≠ c := fun e => hno ⟨0, by rw [e]; rfl⟩
      refine ⟨rfl, h.put hc _ ?_ ?_ ?_ ?_ ?_, ?_⟩
      · have := h.st c; show (r.tk c).st < 3; omega
      · exact { f := hu.f, lt := hu.lt, kn := by rw [put_same]; exact fun a ha => ⟨(hu.kn a ha).1, (hu.kn a ha).2.1, (hu.kn a ha).2.2.put _ (h.notcs hc)⟩, held := by rw [put_same]; exact hu.held, held0 := by rw [put_same]; exact hu.held0, run := by rw [put_same]; exact hu.run }
      · refine ⟨by show -1 ≤ (o : Int); omega, fun _ => ?_⟩
        show Needs E.D r.fs c (o : Int).toNat ∧ (o : Int).toNat < 48
        rw [Int.toNat_natCast]; exact ⟨hn, ho⟩
      · refine endW_wait (c := c) (o := o) h.ends (fun i hi => ?_) ?_ hno
        · show ((r.put c _).tk i).wt = (r.tk i).wt; rw [put_ne _ _ _ hi]
        · show ((r.put c _).tk c).wt = o; rw [put_same]
      · intro a hxa; exact (h.x c a hxa).2
      · exact { wt := by rw [put_same], lt := ho, ne := hoc, open' := by rw [put_ne _ _ _ hoc]; exact h3, mine := by rw [put_same]; exact hc }
end
end Go.Proofs.YtlpmmmmniojflaaGreatDoor
