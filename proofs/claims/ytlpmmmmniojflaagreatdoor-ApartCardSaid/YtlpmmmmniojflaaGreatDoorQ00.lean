/- Texts put together. -/
import Derived.WalkKit
import Derived.Lib.ParseIntB
import Derived.Lib.IndexLaws
import Derived.Lib.IndexBytes
import Derived.Test.YtlpmmmmniojflaaGreatDoorProg
import Derived.WalkSpells
import Derived.WalkLawsBesides
/- Plain mathematics: values; what a formula does, as a function of what it has seen so far; what the cells of a sheet are worth. No program stands in it. -/
set_option linter.unusedVariables false
set_option linter.unusedSimpArgs false
namespace Go.Proofs.YtlpmmmmniojflaaGreatDoor
structure V where
  k : Int
  n : Int
  s : ByteArray
structure Nd where
  c : Nat
  a : Bool
structure Rd where
  nd : Nd
  w : V
def eB : ByteArray := ⟨#[]⟩
def vN : V := ⟨0, 0, eB⟩
def vI (n : Int) : V := ⟨1, n, eB⟩
def vB (b : Bool) : V := ⟨2, if b = true then 1 else 0, eB⟩
def vT (s : ByteArray) : V := ⟨3, 0, s⟩
def vE (n : Int) : V := ⟨4, n, eB⟩
def cyc : V := vE 5
def V.eqB (a b : V) : Bool := decide (a.k = b.k) && (decide (a.n = b.n) && decide (a.s = b.s))
theorem eqB_iff {a b : V} : a.eqB b = true ↔ a = b := by
  cases a; cases b; simp [V.eqB]
theorem eqB_self (a : V) : a.eqB a = true := eqB_iff.2 rfl
theorem eqB_ne {a b : V} (h : a ≠ b) : a.eqB b = false := by
  cases e : a.eqB b with
  | false => rfl
  | true => exact absurd (eqB_iff.1 e) h
def I64 (n : Int) : Prop := -9223372036854775808 ≤ n ∧ n ≤ 9223372036854775807
def OKV (v : V) : Prop := I64 v.n ∧ I64 v.k ∧ v ≠ cyc ∧ v.s.size ≤ 1000
def see (nd : Nd) (v : V) : V := if v.k = 0 ∧ nd.a = false then vI 0 else v
theorem okv_zero : OKV (vI 0) := ⟨by unfold I64 vI; simp, by unfold I64 vI; simp, by unfold vI cyc vE; simp, by show eB.size ≤ 1000; decide⟩
theorem okv_none : OKV vN := ⟨by unfold I64 vN; simp, by unfold I64 vN; simp, by unfold vN cyc vE; simp, by show eB.size ≤ 1000; decide⟩
theorem okv_see {nd : Nd} {v : V} (h : OKV v) : OKV (see nd v) := by unfold see; split; exact okv_zero; exact h
theorem see_cyc (nd : Nd) : see nd cyc = cyc := by unfold see; rw [if_neg]; unfold cyc vE; simp
abbrev Beh := List V → Sum V Nd
def retA (v : V) : Beh := fun _ => .inl v
def askA (nd : Nd) (k : V → Beh) : Beh := fun h => match h with | [] => .inr nd | x :: l => k x l
def bindH (k : V → Beh) : List V → Beh → Sum V Nd
  | [], d => match d [] with | .inl v => k v [] | .inr nd => .inr nd
  | x :: l, d => match d [] with | .inl v => k v (x :: l) | .inr _ => bindH k l (fun l' => d (x :: l'))
def bindA (d : Beh) (k : V → Beh) : Beh := fun h => bindH k h d
theorem bind_ret (v : V) (k : V → Beh) : bindA (retA v) k = k v := by
  funext h; cases h <;> rfl
theorem bind_ask (nd : Nd) (f : V → Beh) (k : V → Beh) : bindA (askA nd f) k = askA nd (fun x => bindA (f x) k) := by
  funext h; cases h <;> rfl
theorem bindH_assoc (f g : V → Beh) : ∀ (h : List V) (d : Beh), bindH g h (bindA d f) = bindH (fun v => bindA (f v) g) h d
  | [], d => by
    unfold bindH
    show (match bindA d f [] with | .inl v => g v [] | .inr nd => .inr nd) = _
    unfold bindA bindH
    cases d [] with
    | inl v => rfl
    | inr nd => rfl
  | x :: l, d => by
    have ih := bindH_assoc f g l
    unfold bindH
    cases e : d [] with
    | inl v =>
      have e1 : ∀ l', bindA d f l' = f v l' := by
        intro l'; unfold bindA; cases l' <;> (unfold bindH; rw [e])
      have e2 : bindA d f = f v := funext e1
      rw [e2]
      show _ = bindH g (x :: l) (f v)
      rfl
    | inr nd =>
      have e1 : bindA d f [] = .inr nd := by unfold bindA bindH; rw [e]
      rw [e1]
      show bindH g l (fun l' => bindA d f (x :: l')) = bindH _ l (fun l' => d (x :: l'))
      have e2 : (fun l' => bindA d f (x :: l')) = bindA (fun l' => d (x :: l')) f := by
        funext l'; unfold bindA; rw [bindH]; rw [e]
      rw [e2]
      exact ih _
theorem bind_assoc (d : Beh) (f g : V → Beh) : bindA (bindA d f) g = bindA d (fun v => bindA (f v) g) := by
  funext h; exact bindH_assoc f g h d
def ActN : Nat → Beh → Prop
  | 0, d => ∃ v, OKV v ∧ d [] = .inl v
  | n + 1, d => (∃ v, OKV v ∧ d [] = .inl v) ∨ ∃ nd : Nd, nd.c < 48 ∧ d [] = .inr nd ∧ ∀ x, OKV x → ActN n (fun l => d (x :: l))
def AOK (d : Beh) : Prop := ∃ n, ActN n d
theorem ActN.now {n : Nat} {d : Beh} (h : ActN n d) {v : V} (e : d [] = .inl v) : OKV v := by
  cases n with
  | zero => obtain ⟨u, h1, h2⟩ := h; rw [e] at h2; cases h2; exact h1
  | succ n =>
    rcases h with ⟨u, h1, h2⟩ | ⟨nd, _, h2, _⟩
    · rw [e] at h2; cases h2; exact h1
    · rw [e] at h2; cases h2
theorem ActN.next {n : Nat} {d : Beh} (h : ActN n d) {nd : Nd} (e : d [] = .inr nd) : nd.c < 48 ∧ ∃ m, n = m + 1 ∧ ∀ x, OKV x → ActN m (fun l => d (x :: l)) := by
  cases n with
  | zero => obtain ⟨u, h1, h2⟩ := h; rw [e] at h2; cases h2
  | succ n =>
    rcases h with ⟨u, h1, h2⟩ | ⟨nd', hc, h2, h3⟩
    · rw [e] at h2; cases h2
    · rw [e] at h2; cases h2; exact ⟨hc, n, rfl, h3⟩
def Tr : Beh → List Rd → Prop
  | _, [] => True
  | d, r :: l => d [] = .inr r.nd ∧ Tr (fun h => d (r.w :: h)) l
def ws (l : List Rd) : List V := l.map Rd.w
theorem tr_app : ∀ (l : List Rd) (d : Beh) (r : Rd), Tr d l → d (ws l) = .inr r.nd → Tr d (l ++ [r])
  | [], d, r, _, h => ⟨h, trivial⟩
  | a :: l, d, r, ⟨h1, h2⟩, h => ⟨h1, tr_app l _ r h2 h⟩
theorem tr_take : ∀ (l : List Rd) (d : Beh) (i : Nat), Tr d l → Tr d (l.take i)
  | [], d, i, _ => by simp [Tr]
  | a :: l, d, 0, _ => trivial
  | a :: l, d, i + 1, ⟨h1, h2⟩ => ⟨h1, tr_take l _ i h2⟩
theorem tr_at : ∀ (l : List Rd) (d : Beh) (i : Nat) (r : Rd), Tr d l → l[i]? = some r → d (ws (l.take i)) = .inr r.nd
  | [], d, i, r, _, h => by simp at h
  | a :: l, d, 0, r, ⟨h1, _⟩, h => by simp at h; subst h; exact h1
  | a :: l, d, i + 1, r, ⟨_, h2⟩, h => by
    rw [List.getElem?_cons_succ] at h
    exact tr_at l _ i r h2 h
theorem tr_ok : ∀ (l : List Rd) (d : Beh) (n : Nat), ActN n d → Tr d l → (∀ r ∈ l, OKV r.w) → (∀ r ∈ l, r.nd.c < 48) ∧ ∃ m, ActN m (fun h => d (ws l ++ h))
  | [], d, n, h, _, _ => ⟨by simp, n, h⟩
  | a :: l, d, n, h, ⟨h1, h2⟩, ho => by
    obtain ⟨hc, m, rfl, hm⟩ := h.next h1
    obtain ⟨g1, m', g2⟩ := tr_ok l _ m (hm a.w (ho a List.mem_cons_self)) h2 (fun r hr => ho r (List.mem_cons_of_mem _ hr))
    refine ⟨fun r hr => ?_, m', g2⟩
    rcases List.mem_cons.1 hr with rfl | hr
    · exact hc
    · exact g1 r hr
theorem tr_same : ∀ (l l' : List Rd) (d : Beh) (v v' : V), Tr d l → Tr d l' → d (ws l) = .inl v → d (ws l') = .inl v' →
    (∀ r ∈ l, ∀ r' ∈ l', r.nd = r'.nd → r.w = r'.w) → l = l' ∧ v = v'
  | [], [], d, v, v', _, _, h, h', _ => by rw [h] at h'; cases h'; exact ⟨rfl, rfl⟩
  | [], b :: l', d, v, v', _, ⟨g1, _⟩, h, _, _ => by
    have h : d [] = .inl v := h
    rw [h] at g1; cases g1
  | a :: l, [], d, v, v', ⟨g1, _⟩, _, _, h', _ => by
    have h' : d [] = .inl v' := h'
    rw [h'] at g1; cases g1
  | a :: l, b :: l', d, v, v', ⟨g1, g2⟩, ⟨k1, k2⟩, h, h', ha => by
    rw [g1] at k1
    have e1 : a.nd = b.nd := Sum.inr.inj k1
    have e2 := ha a List.mem_cons_self b List.mem_cons_self e1
    rw [← e2] at k2
    have h' : d (b.w :: ws l') = .inl v' := h'
    rw [← e2] at h'
    obtain ⟨i1, i2⟩ := tr_same l l' _ v v' g2 k2 h h' (fun r hr r' hr' => ha r (List.mem_cons_of_mem _ hr) r' (List.mem_cons_of_mem _ hr'))
    refine ⟨?_, i2⟩
    rw [i1]
    congr 1
    cases a; cases b; simp_all
theorem tr_reads : ∀ (l l' : List Rd) (d : Beh) (nd : Nd) (v' : V), Tr d l → Tr d l' → d (ws l) = .inr nd → d (ws l') = .inl v' →
    (∀ r ∈ l, ∀ r' ∈ l', r.nd = r'.nd → r.w = r'.w) → ∃ r' ∈ l', r'.nd = nd
  | [], [], d, nd, v', _, _, h, h', _ => by rw [h] at h'; cases h'
  | [], b :: l', d, nd, v', _, ⟨g1, _⟩, h, _, _ => by
    have h : d [] = .inr nd := h
    rw [h] at g1; cases g1; exact ⟨b, List.mem_cons_self, rfl⟩
  | a :: l, [], d, nd, v', ⟨g1, _⟩, _, _, h', _ => by
    have h' : d [] = .inl v' := h'
    rw [h'] at g1; cases g1
  | a :: l, b :: l', d, nd, v', ⟨g1, g2⟩, ⟨k1, k2⟩, h, h', ha => by
    rw [g1] at k1
    have e1 : a.nd = b.nd := Sum.inr.inj k1
    have e2 := ha a List.mem_cons_self b List.mem_cons_self e1
    rw [← e2] at k2
    have h' : d (b.w :: ws l') = .inl v' := h'
    rw [← e2] at h'
    obtain ⟨r', i1, i2⟩ := tr_reads l l' _ nd v' g2 k2 h h' (fun r hr r' hr' => ha r (List.mem_cons_of_mem _ hr) r' (List.mem_cons_of_mem _ hr'))
    exact ⟨r', List.mem_cons_of_mem _ i1, i2⟩
def ev (D : ByteArray → Beh) (fs : Nat → ByteArray) : Nat → Nat → V → Prop
  | 0, _, _ => False
  | n + 1, c, v => (fs c = eB ∧ v = vN) ∨ (fs c ≠ eB ∧ ∃ rs, Tr (D (fs c)) rs ∧ D (fs c) (ws rs) = .inl v ∧ ∀ r ∈ rs, ∃ u, ev D fs n r.nd.c u ∧ r.w = see r.nd u)
section
variable {D : ByteArray → Beh} {fs : Nat → ByteArray}
theorem ev_succ : ∀ (n c : Nat) (v : V), ev D fs n c v → ev D fs (n + 1) c v
  | 0, _, _, h => h.elim
  | n + 1, c, v, h => by
    rcases h with h | ⟨h0, rs, h1, h2, h3⟩
    · exact .inl h
    · exact .inr ⟨h0, rs, h1, h2, fun r hr => by obtain ⟨u, g1, g2⟩ := h3 r hr; exact ⟨u, ev_succ n _ _ g1, g2⟩⟩
theorem ev_le {n m c : Nat} {v : V} (hnm : n ≤ m) (h : ev D fs n c v) : ev D fs m c v := by
  induction hnm with
  | refl => exact h
  | step _ ih => exact ev_succ _ _ _ ih
theorem ev_same : ∀ (n c : Nat) (v v' : V), ev D fs n c v → ev D fs n c v' → v = v'
  | 0, _, _, _, h, _ => h.elim
  | n + 1, c, v, v', h, h' => by
    rcases h with ⟨h, rfl⟩ | ⟨h0, rs, h1, h2, h3⟩
    · rcases h' with ⟨_, rfl⟩ | ⟨h0, _⟩
      · rfl
      · exact absurd h h0
    · rcases h' with ⟨h, _⟩ | ⟨_, rs', k1, k2, k3⟩
      · exact absurd h h0
      · refine (tr_same rs rs' _ v v' h1 k1 h2 k2 fun r hr r' hr' e => ?_).2
        obtain ⟨u, g1, g2⟩ := h3 r hr
        obtain ⟨u', g1', g2'⟩ := k3 r' hr'
        rw [← e] at g1' g2'
        rw [g2, g2', ev_same n _ u u' g1 g1']
theorem ev_det {n m c : Nat} {v v' : V} (h : ev D fs n c v) (h' : ev D fs m c v') : v = v' :=
  ev_same (max n m) c v v' (ev_le (Nat.le_max_left _ _) h) (ev_le (Nat.le_max_right _ _) h')
def Val (D : ByteArray → Beh) (fs : Nat → ByteArray) (c : Nat) (v : V) : Prop := (∃ n, ev D fs n c v) ∨ ((∀ n u, ¬ ev D fs n c u) ∧ v = cyc)
theorem val_all (D : ByteArray → Beh) (fs : Nat → ByteArray) : ∃ val : Nat → V, ∀ c, Val D fs c (val c) := by
  have h : ∀ c, ∃ v, Val D fs c v := by
    intro c
    by_cases h : ∃ n v, ev D fs n c v
    · obtain ⟨n, v, h⟩ := h; exact ⟨v, .inl ⟨n, h⟩⟩
    · exact ⟨cyc, .inr ⟨fun n u hu => h ⟨n, u, hu⟩, rfl⟩⟩
  exact ⟨fun c => Classical.choose (h c), fun c => Classical.choose_spec (h c)⟩
theorem Val.same {c : Nat} {v v' : V} (h : Val D fs c v) (h' : Val D fs c v') : v = v' := by
  rcases h with ⟨n, h⟩ | ⟨h, rfl⟩
  · rcases h' with ⟨m, h'⟩ | ⟨h', _⟩
    · exact ev_det h h'
    · exact absurd h (h' n v)
  · rcases h' with ⟨m, h'⟩ | ⟨h', rfl⟩
    · exact absurd h' (h m v')
    · rfl
theorem Val.ev {c : Nat} {v : V} (h : Val D fs c v) (hc : v ≠ cyc) : ∃ n, ev D fs n c v := by
  rcases h with h | ⟨_, h⟩
  · exact h
  · exact absurd h hc
def Fit (D : ByteArray → Beh) (fs : Nat → ByteArray) : Prop := ∀ c, fs c ≠ eB → AOK (D (fs c))
theorem ev_ok (hD : Fit D fs) : ∀ (n c : Nat) (v : V), ev D fs n c v → OKV v
  | 0, _, _, h => h.elim
  | n + 1, c, v, h => by
    rcases h with ⟨_, rfl⟩ | ⟨h0, rs, h1, h2, h3⟩
    · exact okv_none
    · obtain ⟨N, hN⟩ := hD c h0
      obtain ⟨_, m, hm⟩ := tr_ok rs _ N hN h1 (fun r hr => by obtain ⟨u, g1, g2⟩ := h3 r hr; rw [g2]; exact okv_see (ev_ok hD n _ _ g1))
      exact hm.now (by simpa using h2)
theorem Val.ok (hD : Fit D fs) {c : Nat} {v : V} (h : Val D fs c v) (hc : v ≠ cyc) : OKV v := by
  obtain ⟨n, h⟩ := h.ev hc; exact ev_ok hD n c v h
theorem Val.hangs (hD : Fit D fs) {c : Nat} (h : Val D fs c cyc) (n : Nat) (u : V) : ¬ Go.Proofs.YtlpmmmmniojflaaGreatDoor.ev D fs n c u := by
  rcases h with ⟨m, h⟩ | ⟨h, _⟩
  · exact absurd rfl (ev_ok hD m c _ h).2.2.1
  · exact h n u
theorem Val.none {c : Nat} {v : V} (h : Val D fs c v) (h0 : fs c = eB) : v = vN :=
  h.same (.inl ⟨1, .inl ⟨h0, rfl⟩⟩)
def Needs (D : ByteArray → Beh) (fs : Nat → ByteArray) (c o : Nat) : Prop := ∀ n v, ev D fs (n + 1) c v → ∃ u, ev D fs n o u
def Hold (val : Nat → V) (rs : List Rd) : Prop := ∀ r ∈ rs, r.w = see r.nd (val r.nd.c) ∧ val r.nd.c ≠ cyc
theorem Hold.app {val : Nat → V} {rs : List Rd} {r : Rd} (h : Hold val rs) (h1 : r.w = see r.nd (val r.nd.c)) (h2 : val r.nd.c ≠ cyc) : Hold val (rs ++ [r]) := by
  intro x hx
  rcases List.mem_append.1 hx with hx | hx
  · exact h x hx
  · rw [List.mem_singleton] at hx; subst hx; exact ⟨h1, h2⟩
theorem Hold.nil (val : Nat → V) : Hold val [] := by intro r hr; cases hr
theorem needs_of {val : Nat → V} (hv : ∀ c, Val D fs c (val c)) {c : Nat} (h0 : fs c ≠ eB) {rs : List Rd} (ht : Tr (D (fs c)) rs) (hh : Hold val rs) {nd : Nd} (hn : D (fs c) (ws rs) = .inr nd) : Needs D fs c nd.c := by
  intro n v h
  rcases h with ⟨h, _⟩ | ⟨_, rs', k1, k2, k3⟩
  · exact absurd h h0
  · obtain ⟨r', hr', e⟩ := tr_reads rs rs' _ nd v ht k1 hn k2 (fun r hr r' hr' e => by
      obtain ⟨u, g1, g2⟩ := k3 r' hr'
      obtain ⟨w1, w2⟩ := hh r hr
      have : u = val r'.nd.c := Val.same (D := D) (fs := fs) (.inl ⟨n, g1⟩) (hv _)
      rw [w1, g2, e, this])
    obtain ⟨u, g1, _⟩ := k3 r' hr'
    exact ⟨u, by rw [← e]; exact g1⟩
theorem ev_max {val : Nat → V} (hv : ∀ c, Val D fs c (val c)) : ∀ (rs : List Rd), Hold val rs → ∃ n, ∀ r ∈ rs, ev D fs n r.nd.c (val r.nd.c)
  | [], _ => ⟨0, by simp⟩
  | a :: l, h => by
    obtain ⟨n, hn⟩ := ev_max hv l (fun r hr => h r (List.mem_cons_of_mem _ hr))
    obtain ⟨m, hm⟩ := (hv a.nd.c).ev (h a List.mem_cons_self).2
    refine ⟨max n m, fun r hr => ?_⟩
    rcases List.mem_cons.1 hr with rfl | hr
    · exact ev_le (Nat.le_max_right _ _) hm
    · exact ev_le (Nat.le_max_left _ _) (hn r hr)
theorem val_of {val : Nat → V} (hv : ∀ c, Val D fs c (val c)) {c : Nat} (h0 : fs c ≠ eB) {rs : List Rd} (ht : Tr (D (fs c)) rs) (hh : Hold val rs) {v : V} (hn : D (fs c) (ws rs) = .inl v) : val c = v ∧ ∃ n, ev D fs n c v := by
  obtain ⟨n, hm⟩ := ev_max hv rs hh
  have : ev D fs (n + 1) c v := .inr ⟨h0, rs, ht, hn, fun r hr => ⟨_, hm r hr, (hh r hr).1⟩⟩
  exact ⟨(hv c).same (.inl ⟨_, this⟩), _, this⟩
theorem cyc_of (hD : Fit D fs) {val : Nat → V} (hv : ∀ c, Val D fs c (val c)) {c o : Nat} (hn : Needs D fs c o) (ho : val o = cyc) : val c = cyc := by
  rcases hv c with ⟨n, h⟩ | ⟨_, h⟩
  · cases n with
    | zero => exact h.elim
    | succ n =>
      obtain ⟨u, hu⟩ := hn n _ h
      have := hv o
      rw [ho] at this
      exact absurd hu (this.hangs hD n u)
  · exact h
def along (wt : Nat → Int) : Nat → Int → Int
  | 0, x => x
  | n + 1, x => along wt n (if 0 ≤ x then wt x.toNat else -1)
theorem along_down {wt : Nat → Int} (hw : ∀ x : Nat, 0 ≤ wt x → Needs D fs x (wt x).toNat) : ∀ (m n : Nat) (o c : Nat) (u : V), along wt m o = c → ev D fs n o u → ∃ n', n' ≤ n ∧ ∃ u', ev D fs n' c u'
  | 0, n, o, c, u, h, he => by
    have : (o : Int) = c := h
    have : o = c := by omega
    subst this
    exact ⟨n, Nat.le_refl _, u, he⟩
  | m + 1, n, o, c, u, h, he => by
    have h : along wt m (if 0 ≤ (o : Int) then wt (o : Int).toNat else -1) = c := h
    rw [if_pos (by omega), Int.toNat_natCast] at h
    cases n with
    | zero => exact he.elim
    | succ n =>
      by_cases h0 : 0 ≤ wt o
      · obtain ⟨u2, hu2⟩ := hw o h0 n u he
        obtain ⟨n', h1, h2⟩ := along_down hw m n (wt o).toNat c u2 (by rw [Int.toNat_of_nonneg h0]; exact h) hu2
        exact ⟨n', by omega, h2⟩
      · exfalso
        have : ∀ (m : Nat) (x : Int), x < 0 → along wt m x < 0 := by
          intro m
          induction m with
          | zero => intro x hx; exact hx
          | succ m ih => intro x hx; exact ih _ (by rw [if_neg (by omega)]; omega)
        have := this m (wt o) (by omega)
        omega
theorem ring_hangs {wt : Nat → Int} (hw : ∀ x : Nat, 0 ≤ wt x → Needs D fs x (wt x).toNat) {c o m : Nat} (hr : along wt m o = c) (hn : Needs D fs c o) : ∀ n u, ¬ ev D fs n o u := by
  intro n
  induction n using Nat.strongRecOn with
  | _ n ih =>
    intro u hu
    obtain ⟨n', h1, u', h2⟩ := along_down hw m n o c u hr hu
    cases n' with
    | zero => exact h2.elim
    | succ n' =>
      obtain ⟨u3, h3⟩ := hn n' u' h2
      exact ih n' (by omega) u3 h3
theorem ring_cyc {wt : Nat → Int} {val : Nat → V} (hv : ∀ c, Val D fs c (val c)) (hw : ∀ x : Nat, 0 ≤ wt x → Needs D fs x (wt x).toNat) {c o m : Nat} (hr : along wt m o = c) (hn : Needs D fs c o) : val o = cyc := by
  rcases hv o with ⟨n, h⟩ | ⟨_, h⟩
  · exact absurd h (ring_hangs hw hr hn n _)
  · exact h
end
end Go.Proofs.YtlpmmmmniojflaaGreatDoor
/- Plain mathematics: what the signs make of values; the machine that works a formula out by small steps; what it comes to. -/
set_option linter.unusedVariables false
set_option linter.unusedSimpArgs false
namespace Go.Proofs.YtlpmmmmniojflaaGreatDoor
def inR (n : Int) : Bool := decide (-9223372036854775808 ≤ n ∧ n ≤ 9223372036854775807)
def vNum (n : Int) : V := if inR n = true then vI n else vE 1
def vAdd (a b : V) : V := if a.k = 1 ∧ b.k = 1 then vNum (a.n + b.n) else vE 4
def vSub (a b : V) : V := if a.k = 1 ∧ b.k = 1 then vNum (a.n - b.n) else vE 4
def vMul (a b : V) : V := if a.k = 1 ∧ b.k = 1 then vNum (a.n * b.n) else vE 4
def vDiv (a b : V) : V := if a.k = 1 ∧ b.k = 1 then (if b.n = 0 then vE 2 else vNum (a.n.tdiv b.n)) else vE 4
def vJoin (a b : V) : V := if a.k = 3 ∧ b.k = 3 then (if 20 < a.s.size + b.s.size then vE 1 else vT (a.s ++ b.s)) else vE 4
def vEq (a b : V) : V := if a.k = b.k then vB (a.eqB b) else vE 4
def ltL : List UInt8 → List UInt8 → Bool
  | [], [] => false
  | [], _ :: _ => true
  | _ :: _, [] => false
  | a :: l, b :: m => if a.toNat < b.toNat then true else if b.toNat < a.toNat then false else ltL l m
def vLess (a b : V) : V := if a.k = 1 ∧ b.k = 1 then vB (decide (a.n < b.n)) else if a.k = 3 ∧ b.k = 3 then vB (ltL a.s.data.toList b.s.data.toList) else vE 4
def vNeg (a : V) : V := vSub (vI 0) a
def comb (op : Nat) (a b : V) : V :=
  if op = 5 then vAdd a b else if op = 6 then vSub a b else if op = 7 then vMul a b else if op = 8 then vDiv a b else if op = 9 then vJoin a b else if op = 10 then vEq a b else vLess a b
theorem ok_e {n : Int} (h : n ≠ 5) (hn : I64 n) : OKV (vE n) := ⟨hn, by unfold I64 vE; simp, by intro e; unfold cyc vE at e; simp at e; exact h e, by show eB.size ≤ 1000; decide⟩
theorem ok_e1 : OKV (vE 1) := ok_e (by decide) (by unfold I64; omega)
theorem ok_e2 : OKV (vE 2) := ok_e (by decide) (by unfold I64; omega)
theorem ok_e3 : OKV (vE 3) := ok_e (by decide) (by unfold I64; omega)
theorem ok_e4 : OKV (vE 4) := ok_e (by decide) (by unfold I64; omega)
theorem ok_i {n : Int} (hn : I64 n) : OKV (vI n) := ⟨hn, by unfold I64 vI; simp, by intro e; unfold cyc vE vI at e; simp at e, by show eB.size ≤ 1000; decide⟩
theorem ok_b (b : Bool) : OKV (vB b) := ⟨by unfold I64 vB; cases b <;> simp, by unfold I64 vB; simp, by intro e; unfold cyc vE vB at e; simp at e, by show eB.size ≤ 1000; decide⟩
theorem ok_t {s : ByteArray} (hs : s.size ≤ 1000) : OKV (vT s) := ⟨by unfold I64 vT; simp, by unfold I64 vT; simp, by intro e; unfold cyc vE vT at e; simp at e, hs⟩
theorem ok_num (n : Int) : OKV (vNum n) := by
  unfold vNum
  split
  · rename_i h; exact ok_i (by unfold inR at h; unfold I64; exact of_decide_eq_true h)
  · exact ok_e1
theorem ok_add (a b : V) : OKV (vAdd a b) := by unfold vAdd; split; exact ok_num _; exact ok_e4
theorem ok_sub (a b : V) : OKV (vSub a b) := by unfold vSub; split; exact ok_num _; exact ok_e4
theorem ok_mul (a b : V) : OKV (vMul a b) := by unfold vMul; split; exact ok_num _; exact ok_e4
theorem ok_div (a b : V) : OKV (vDiv a b) := by unfold vDiv; split; split; exact ok_e2; exact ok_num _; exact ok_e4
theorem ok_join (a b : V) : OKV (vJoin a b) := by
  unfold vJoin
  split
  · split
    · exact ok_e1
    · rename_i h; exact ok_t (by rw [ByteArray.size_append]; omega)
  · exact ok_e4
theorem ok_eq (a b : V) : OKV (vEq a b) := by unfold vEq; split; exact ok_b _; exact ok_e4
theorem ok_less (a b : V) : OKV (vLess a b) := by unfold vLess; split; exact ok_b _; split; exact ok_b _; exact ok_e4
theorem ok_neg (a : V) : OKV (vNeg a) := ok_sub _ _
theorem ok_comb (op : Nat) (a b : V) : OKV (comb op a b) := by
  unfold comb
  split; exact ok_add _ _
  split; exact ok_sub _ _
  split; exact ok_mul _ _
  split; exact ok_div _ _
  split; exact ok_join _ _
  split; exact ok_eq _ _
  exact ok_less _ _
def cellN (l : List UInt8) : Option Nat :=
  match l with
  | [a, b] => if 65 ≤ a.toNat ∧ a.toNat ≤ 70 ∧ 49 ≤ b.toNat ∧ b.toNat ≤ 56 then some ((b.toNat - 49) * 6 + (a.toNat - 65)) else none
  | _ => none
theorem cellN_lt {l : List UInt8} {c : Nat} (h : cellN l = some c) : c < 48 := by
  unfold cellN at h
  split at h
  · split at h
    · cases h; omega
    · cases h
  · cases h
structure Ins where
  op : Nat
  v : V
  cell : Nat
  to : Nat
structure Mc where
  code : List Ins
  at' : Nat
  vals : List V
  gd : List (Nat × Nat)
def Mc.push (m : Mc) (v : V) : Mc := { m with vals := m.vals ++ [v] }
def stepM (m : Mc) (i : Ins) : Option (Mc × Option Nd) :=
  if i.op = 0 then some (({ m with at' := m.at' + 1 } : Mc).push i.v, none)
  else if i.op = 1 ∨ i.op = 2 then some ({ m with at' := m.at' + 1 }, some ⟨i.cell, decide (i.op = 2)⟩)
  else if i.op = 14 then some ({ m with at' := i.to }, none)
  else if i.op = 15 then some ({ m with at' := m.at' + 1, gd := m.gd ++ [(i.to, m.vals.length)] }, none)
  else match m.vals.getLast? with
    | none => none
    | some y =>
      if i.op = 3 then
        (if y.k ≠ 3 then some (⟨m.code, m.at' + 1, m.vals.dropLast ++ [vE 4], m.gd⟩, none)
        else match cellN y.s.data.toList with
          | none => some (⟨m.code, m.at' + 1, m.vals.dropLast ++ [vE 3], m.gd⟩, none)
          | some c => some (⟨m.code, m.at' + 1, m.vals.dropLast, m.gd⟩, some ⟨c, false⟩))
      else if i.op = 4 then some (⟨m.code, m.at' + 1, m.vals.dropLast ++ [vNeg y], m.gd⟩, none)
      else if i.op = 13 then
        (if y.k ≠ 2 then some (⟨m.code, m.at' + 1, m.vals.dropLast ++ [vE 4], m.gd⟩, none)
        else some (⟨m.code, if y.n = 0 then i.to else m.at' + 1, m.vals.dropLast, m.gd⟩, none))
      else if i.op = 16 then (if m.gd = [] then none else some (⟨m.code, m.at' + 1, m.vals.dropLast ++ [vB false], m.gd.dropLast⟩, none))
      else if i.op = 12 ∧ y.k ≠ 1 then some (⟨m.code, m.at' + 1, m.vals.dropLast, m.gd⟩, none)
      else match m.vals.dropLast.getLast? with
        | none => none
        | some x => some (⟨m.code, m.at' + 1, m.vals.dropLast.dropLast ++ [if i.op = 12 then vAdd x (vI 1) else comb i.op x y], m.gd⟩, none)
def failB (m : Mc) : Bool := match m.vals.getLast? with | some v => decide (v.k = 4) | none => false
def headM (m : Mc) : Option (Sum Mc (Mc × Option Nd)) :=
  if failB m = true then
    match m.gd.getLast? with
    | none => some (.inr (m, none))
    | some g => if g.2 ≤ m.vals.length then some (.inl ⟨m.code, g.1, m.vals.take g.2 ++ [vB true], m.gd.dropLast⟩) else none
  else match m.code[m.at']? with
    | none => if m.at' = m.code.length then some (.inr (m, none)) else none
    | some i => match stepM m i with
      | none => none
      | some (m', none) => some (.inl m')
      | some (m', some nd) => some (.inr (m', some nd))
def goM : Nat → Mc → Option (Mc × Option Nd)
  | 0, _ => none
  | n + 1, m => match headM m with
    | none => none
    | some (.inr x) => some x
    | some (.inl m') => goM n m'
def Runs : Nat → Mc → Beh → Prop
  | 0, m, d => ∃ f m' v, goM f m = some (m', none) ∧ m'.vals.getLast? = some v ∧ OKV v ∧ d [] = .inl v
  | n + 1, m, d => (∃ f m' v, goM f m = some (m', none) ∧ m'.vals.getLast? = some v ∧ OKV v ∧ d [] = .inl v) ∨
      ∃ f m' nd, goM f m = some (m', some nd) ∧ nd.c < 48 ∧ d [] = .inr nd ∧ ∀ x, OKV x → Runs n (m'.push x) (fun l => d (x :: l))
theorem Runs.succ : ∀ (n : Nat) (m : Mc) (d : Beh), Runs n m d → Runs (n + 1) m d
  | 0, m, d, h => .inl h
  | n + 1, m, d, .inl h => .inl h
  | n + 1, m, d, .inr ⟨f, m', nd, h0, h1, h2, h3⟩ => .inr ⟨f, m', nd, h0, h1, h2, fun x hx => Runs.succ n _ _ (h3 x hx)⟩
theorem Runs.le {n k : Nat} {m : Mc} {d : Beh} (h : Runs n m d) (hk : n ≤ k) : Runs k m d := by
  induction hk with
  | refl => exact h
  | step _ ih => exact Runs.succ _ _ _ ih
theorem runs_step {n : Nat} {m m' : Mc} {d : Beh} (h : headM m = some (.inl m')) (hr : Runs n m' d) : Runs n m d := by
  cases n with
  | zero =>
    obtain ⟨f, m2, v, h1, h2⟩ := hr
    exact ⟨f + 1, m2, v, by rw [goM, h]; exact h1, h2⟩
  | succ n =>
    rcases hr with ⟨f, m2, v, h1, h2⟩ | ⟨f, m2, nd, h1, h2⟩
    · exact .inl ⟨f + 1, m2, v, by rw [goM, h]; exact h1, h2⟩
    · exact .inr ⟨f + 1, m2, nd, by rw [goM, h]; exact h1, h2⟩
theorem runs_ask {n : Nat} {m m' : Mc} {nd : Nd} {k : V → Beh} (h : headM m = some (.inr (m', some nd))) (hc : nd.c < 48) (hr : ∀ x, OKV x → Runs n (m'.push x) (k x)) : Runs (n + 1) m (askA nd k) :=
  .inr ⟨1, m', nd, by rw [goM, h], hc, rfl, hr⟩
def Cont (n : Nat) (code : List Ins) (off : Nat) (S : List V) (G : List (Nat × Nat)) (k : V → Beh) : Prop :=
  (∀ v, OKV v → v.k ≠ 4 → Runs n ⟨code, off, S ++ [v], G⟩ (k v)) ∧ ∀ v, OKV v → v.k = 4 → ∀ (p : Nat) (T : List V), Runs n ⟨code, p, S ++ T ++ [v], G⟩ (k v)
theorem Cont.err {n : Nat} {code : List Ins} {off : Nat} {S : List V} {G : List (Nat × Nat)} {k : V → Beh} (h : Cont n code off S G k) {v : V} (hv : OKV v) (h4 : v.k = 4) (p : Nat) (T : List V) : Runs n ⟨code, p, S ++ T ++ [v], G⟩ (k v) := h.2 v hv h4 p T
theorem Cont.val {n : Nat} {code : List Ins} {off : Nat} {S : List V} {G : List (Nat × Nat)} {k : V → Beh} (h : Cont n code off S G k) {v : V} (hv : OKV v) : Runs n ⟨code, off, S ++ [v], G⟩ (k v) := by
  by_cases h4 : v.k = 4
  · have := h.2 v hv h4 off []
    simpa using this
  · exact h.1 v hv h4
theorem Cont.le {n n' : Nat} {code : List Ins} {off : Nat} {S : List V} {G : List (Nat × Nat)} {k : V → Beh} (h : Cont n code off S G k) (hn : n ≤ n') : Cont n' code off S G k :=
  ⟨fun v h1 h2 => (h.1 v h1 h2).le hn, fun v h1 h2 p T => (h.2 v h1 h2 p T).le hn⟩
theorem head_at {code : List Ins} {off : Nat} {S : List V} {G : List (Nat × Nat)} {i : Ins} (hi : code[off]? = some i) (hS : failB ⟨code, off, S, G⟩ = false) :
    headM ⟨code, off, S, G⟩ = match stepM ⟨code, off, S, G⟩ i with | none => none | some (m', none) => some (.inl m') | some (m', some nd) => some (.inr (m', some nd)) := by
  unfold headM
  rw [if_neg (by rw [hS]; decide)]
  simp only [hi]
def NF (S : List V) : Prop := ∀ v, S.getLast? = some v → v.k ≠ 4
theorem NF.fail {code : List Ins} {off : Nat} {S : List V} {G : List (Nat × Nat)} (h : NF S) : failB ⟨code, off, S, G⟩ = false := by
  unfold failB
  cases e : S.getLast? with
  | none => simp only [e]
  | some v => simp only [e]; exact decide_eq_false (h v e)
theorem NF.app {S : List V} {v : V} (h : v.k ≠ 4) : NF (S ++ [v]) := by
  intro u hu
  rw [List.getLast?_concat] at hu
  cases hu; exact h
def Sg (code : List Ins) (off fin : Nat) (d : Beh) : Prop := ∃ m, ∀ S G n k, NF S → Cont n code fin S G k → Runs (n + m) ⟨code, off, S, G⟩ (bindA d k)
def bindE (d : Beh) (k : V → Beh) : Beh := bindA d (fun v => if v.k = 4 then retA v else k v)
def readA (nd : Nd) : Beh := askA nd retA
end Go.Proofs.YtlpmmmmniojflaaGreatDoor
/- Plain mathematics of formulas: bytes, tokens, the parser's steps. No program stands in it. -/
namespace Go.Proofs.YtlpmmmmniojflaaGreatDoor
def dgB (c : Int) : Bool := decide (48 ≤ c ∧ c ≤ 57)
def ltB (c : Int) : Bool := decide ((65 ≤ c ∧ c ≤ 90) ∨ (97 ≤ c ∧ c ≤ 122))
def pbB (c : Int) : Bool := decide (32 ≤ c ∧ c ≤ 126 ∧ c ≠ 34)
def ldB (c : Int) : Bool := ltB c || dgB c
def sgnI (c : Int) : Int :=
  if c = 40 then 12 else if c = 41 then 13 else if c = 44 then 14 else if c = 58 then 15 else if c = 43 then 16 else if c = 45 then 17
  else if c = 42 then 18 else if c = 47 then 19 else if c = 38 then 20 else if c = 61 then 21 else if c = 60 then 22 else 0
def spn (p : Int → Bool) : List UInt8 → Nat
  | [] => 0
  | c :: r => if p (c.toNat : Int) = true then spn p r + 1 else 0
theorem spn_le (p : Int → Bool) (l : List UInt8) : spn p l ≤ l.length := by
  induction l with
  | nil => simp [spn]
  | cons c r ih => simp only [spn, List.length_cons]; split <;> omega
def celB (l : List UInt8) : Bool :=
  match l with
  | [] => false
  | c :: r => decide (65 ≤ (c.toNat : Int) ∧ (c.toNat : Int) ≤ 90) && (decide (1 ≤ r.length) && decide (spn dgB r = r.length))
def wrdI (l : List UInt8) : Int :=
  if l = [116, 114, 117, 101] then 3 else if l = [102, 97, 108, 115, 101] then 4 else if l = [105, 102] then 6 else if l = [97, 116] then 7
  else if l = [98, 97, 100] then 8 else if l = [115, 117, 109] then 9 else if l = [99, 111, 117, 110, 116] then 10 else if celB l = true then 5 else 11
def valN (l : List UInt8) : Nat := l.foldl (fun n c => 10 * n + (c.toNat - 48)) 0
def numI (l : List UInt8) : Int × Nat :=
  if 19 < spn dgB l then (0, 0) else if 9223372036854775807 < valN (l.take (spn dgB l)) then (0, 0) else (1, spn dgB l)
def wdI (l : List UInt8) : Int × Nat :=
  if 5 < spn ldB l then (0, 0) else (wrdI (l.take (spn ldB l)), spn ldB l)
def qtI (r : List UInt8) : Int × Nat :=
  if r[spn pbB r]? = some 34 ∧ spn pbB r ≤ 20 then (2, spn pbB r + 2) else (0, 0)
def qtT (l : List UInt8) : Int × Nat := qtI (l.drop 1)
def tok1 (l : List UInt8) : Int × Nat :=
  match l with
  | [] => (0, 0)
  | c :: _ => if dgB (c.toNat : Int) = true then numI l else if ltB (c.toNat : Int) = true then wdI l else if c = 34 then qtT l else (sgnI (c.toNat : Int), 1)
theorem spn_take (p : Int → Bool) : ∀ l : List UInt8, ∀ c ∈ l.take (spn p l), p (c.toNat : Int) = true
  | [], c, h => by simp at h
  | a :: r, c, h => by
    unfold spn at h
    split at h
    · rw [List.take_succ_cons] at h
      rcases List.mem_cons.1 h with rfl | h
      · assumption
      · exact spn_take p r c h
    · simp at h
theorem parseM_digits : ∀ (l : List UInt8) (acc : Nat), (∀ c ∈ l, dgB (c.toNat : Int) = true) → (acc + 1) * 10 ^ l.length ≤ 10 ^ 19 →
    Lib.parseUintM (2 ^ 64 - 1) acc l = .ok (l.foldl (fun n c => 10 * n + (c.toNat - 48)) acc)
  | [], acc, _, _ => rfl
  | c :: r, acc, hd, hb => by
    have hc := hd c List.mem_cons_self
    simp only [dgB, decide_eq_true_eq] at hc
    rw [List.length_cons, Nat.pow_succ] at hb
    have e : (acc + 1) * (10 ^ r.length * 10) = (10 * acc + 10) * 10 ^ r.length := by
      rw [Nat.mul_comm (10 ^ r.length), ← Nat.mul_assoc]; congr 1; omega
    rw [e] at hb
    have h1 : 1 ≤ 10 ^ r.length := Nat.one_le_pow _ _ (by omega)
    have h2 : 10 * acc + 10 ≤ 10 ^ 19 := Nat.le_trans (Nat.le_mul_of_pos_right _ h1) hb
    have h19 : (10 : Nat) ^ 19 = 10000000000000000000 := by decide
    have h64 : (2 : Nat) ^ 64 - 1 = 18446744073709551615 := by decide
    rw [h19] at h2
    unfold Lib.parseUintM
    rw [if_pos (by omega), if_neg (by omega), if_neg (by rw [h64]; omega), List.foldl_cons, Nat.mul_comm acc 10]
    refine parseM_digits r _ (fun x hx => hd x (List.mem_cons_of_mem _ hx)) (Nat.le_trans ?_ hb)
    exact Nat.mul_le_mul_right _ (by omega)
theorem parse_digits (l : List UInt8) (h0 : l ≠ []) (hd : ∀ c ∈ l, dgB (c.toNat : Int) = true) (hl : l.length ≤ 19) :
    Lib.parseIntB 64 l = if 9223372036854775807 < valN l then .range else .ok (valN l : Int) := by
  match l, h0 with
  | c :: r, _ =>
    have hc := hd c List.mem_cons_self
    simp only [dgB, decide_eq_true_eq] at hc
    have hp := parseM_digits (c :: r) 0 hd (by
      rw [Nat.zero_add, Nat.one_mul]; exact Nat.pow_le_pow_right (by omega) hl)
    have hu : Lib.parseUintB 64 (if c.toNat = 43 ∨ c.toNat = 45 then r else c :: r) = .ok (valN (c :: r)) := by
      rw [if_neg (by omega)]
      unfold Lib.parseUintB
      rw [if_neg (by simp)]
      exact hp
    unfold Lib.parseIntB
    simp only [hu]
    have h63 : (2 : Nat) ^ (64 - 1) = 9223372036854775808 := by decide
    rw [h63]
    have hn : ¬ c.toNat = 45 := by omega
    by_cases hv : 9223372036854775807 < valN (c :: r)
    · rw [if_pos ⟨hn, by omega⟩, if_pos hv]
    · rw [if_neg (by omega), if_neg (by omega), if_neg hn, if_neg hv]
theorem qt_none (r : List UInt8) (h : Lib.indexByte r 34 = -1) : qtI r = (0, 0) := by
  unfold qtI; exact if_neg fun ⟨h1, _⟩ => Lib.indexByte_none h _ h1
theorem qt_long (r : List UInt8) (m : Nat) (h : Lib.indexByte r 34 = m) (hm : 20 < m) : qtI r = (0, 0) := by
  unfold qtI; exact if_neg fun ⟨h1, h2⟩ => (Lib.indexByte_some h).2 _ (by omega) h1
theorem qt_bad (r : List UInt8) (m : Nat) (h : Lib.indexByte r 34 = m) (hk : spn pbB r < m) : qtI r = (0, 0) := by
  unfold qtI; exact if_neg fun ⟨h1, _⟩ => (Lib.indexByte_some h).2 _ hk h1
theorem qt_ok (r : List UInt8) (m : Nat) (h : Lib.indexByte r 34 = m) (hm : m ≤ 20) (hk : spn pbB r = m) : qtI r = (2, m + 2) := by
  unfold qtI; rw [hk]; exact if_pos ⟨(Lib.indexByte_some h).1, hm⟩
theorem ret_bool {a b : Bool} (h : a = b) : Ending.returned (.bool a) = .returned (.bool b) := by rw [h]
theorem ret_int {k : IntKind} {a b : Int} (h : a = b) : Ending.returned (.int k a) = .returned (.int k b) := by rw [h]
end Go.Proofs.YtlpmmmmniojflaaGreatDoor
/- Small functions of the program: what each call returns, the world as it was. -/
namespace Go.Proofs.YtlpmmmmniojflaaGreatDoor
open Go.RowKit
set_option maxHeartbeats 400000 in
theorem digit_any (c : Int) (w : World) :
    Calls Tryz.prog 149 #[.int .u8 c] w fun e w' => e = .returned (.bool (dgB c)) ∧ w' = w := by
  go_enter Tryz.func149, Tryz.ntmps149
  go_wp2
  all_goals
    go_ret
    exact ⟨ret_bool (by rw [Bool.eq_iff_iff]; simp [dgB]; omega), rfl⟩
set_option maxHeartbeats 400000 in
theorem letter_any (c : Int) (w : World) :
    Calls Tryz.prog 151 #[.int .u8 c] w fun e w' => e = .returned (.bool (ltB c)) ∧ w' = w := by
  go_enter Tryz.func151, Tryz.ntmps151
  go_wp2
  all_goals
    go_ret
    exact ⟨ret_bool (by rw [Bool.eq_iff_iff]; simp [ltB]; omega), rfl⟩
set_option maxHeartbeats 1000000 in
theorem sign_any (c : Int) (w : World) :
    Calls Tryz.prog 154 #[.int .u8 c] w fun e w' => e = .returned (.int .i64 (sgnI c)) ∧ w' = w := by
  go_enter Tryz.func154, Tryz.ntmps154
  go_wp2
  all_goals
    go_ret
    exact ⟨ret_int (by simp_all [sgnI]), rfl⟩
theorem drop_at (s : ByteArray) (k : Nat) (h : k < s.size) : s.data.toList.drop k = s[k] :: s.data.toList.drop (k + 1) := by
  rw [List.drop_eq_getElem_cons (by simpa using h)]; rfl
theorem len_eq (s : ByteArray) : s.data.toList.length = s.size := Array.length_toList
theorem drop_end (s : ByteArray) : s.data.toList.drop s.size = [] := by
  rw [← len_eq s]; exact List.drop_length
theorem spn_step (p : Int → Bool) (s : ByteArray) (k : Nat) (h : k < s.size) :
    spn p (s.data.toList.drop k) = if p (s[k].toNat : Int) = true then spn p (s.data.toList.drop (k + 1)) + 1 else 0 := by
  rw [drop_at s k h]; rfl
theorem spn_end (p : Int → Bool) (s : ByteArray) : spn p (s.data.toList.drop s.size) = 0 := by
  rw [drop_end]; rfl
theorem celB_eq (s : ByteArray) (h : 0 < s.size) : celB s.data.toList =
    (decide ((65 : Int) ≤ (s[0].toNat : Int) ∧ (s[0].toNat : Int) ≤ 90) && (decide (2 ≤ s.size) && decide (spn dgB (s.data.toList.drop 1) + 1 = s.size))) := by
  have hd := drop_at s 0 h
  simp only [List.drop_zero, Nat.zero_add] at hd
  have hl := len_eq s
  conv => lhs; rw [hd]
  rw [hd] at hl
  simp only [List.length_cons] at hl
  simp only [celB]
  have e1 : decide (1 ≤ (s.data.toList.drop 1).length) = decide (2 ≤ s.size) := by rw [Bool.eq_iff_iff]; simp only [decide_eq_true_eq]; omega
  have e2 : decide (spn dgB (s.data.toList.drop 1) = (s.data.toList.drop 1).length) = decide (spn dgB (s.data.toList.drop 1) + 1 = s.size) := by rw [Bool.eq_iff_iff]; simp only [decide_eq_true_eq]; omega
  rw [e1, e2]
theorem celB_short (s : ByteArray) (h : s.size < 2) : celB s.data.toList = false := by
  by_cases h0 : 0 < s.size
  · rw [celB_eq s h0, decide_eq_false (show ¬ 2 ≤ s.size by omega)]; simp
  · have hl := len_eq s
    have : s.data.toList = [] := List.length_eq_zero_iff.1 (by omega)
    rw [this]; rfl
theorem celB_yes (s : ByteArray) (h : 2 ≤ s.size) (ha : (65 : Int) ≤ (s[0].toNat : Int)) (hb : (s[0].toNat : Int) ≤ 90) (hk : spn dgB (s.data.toList.drop 1) + 1 = s.size) : celB s.data.toList = true := by
  rw [celB_eq s (by omega), decide_eq_true (show _ ∧ _ from ⟨ha, hb⟩), decide_eq_true h, decide_eq_true hk]; rfl
theorem celB_no (s : ByteArray) (h : 0 < s.size) (hk : spn dgB (s.data.toList.drop 1) + 1 ≠ s.size) : celB s.data.toList = false := by
  rw [celB_eq s h, decide_eq_false hk]; simp
theorem celB_other (s : ByteArray) (h : 0 < s.size) (ha : ¬ ((65 : Int) ≤ (s[0].toNat : Int) ∧ (s[0].toNat : Int) ≤ 90)) : celB s.data.toList = false := by
  rw [celB_eq s h, decide_eq_false ha]; simp
set_option maxHeartbeats 1000000 in
theorem looks_any (s : ByteArray) (w : World) (hs : s.size ≤ maxLen) :
    Calls Tryz.prog 207 #[.string s] w fun e w' => e = .returned (.bool (celB s.data.toList)) ∧ w' = w := by
  unfold maxLen at hs
  by_cases h2 : s.size < 2
  · have H : Hid (celB s.data.toList = false) := celB_short s h2
    go_enter Tryz.func207, Tryz.ntmps207
    go_wp2
    go_ret
    exact ⟨ret_bool H.out.symm, rfl⟩
  · have h0 : 0 < s.size := by omega
    by_cases ha : (65 : Int) ≤ (s[0].toNat : Int)
    · by_cases hb : (s[0].toNat : Int) ≤ 90
      · go_enter Tryz.func207, Tryz.ntmps207
        go_wp2_with (go_at_call 149; refine (digit_any _ _).mono ?_; rintro e w' ⟨rfl, rfl⟩)
        go_loop [3] (fun i => ∃ k : Nat, 1 ≤ k ∧ k ≤ s.size ∧ i = .int .i64 k ∧ Hid (spn dgB (s.data.toList.drop 1) + 1 = k + spn dgB (s.data.toList.drop k))) (fun i => s.size - (intOf i).toNat)
        case atStart => exact ⟨1, by omega, by omega, rfl, by unfold Hid; omega⟩
        case round =>
          obtain ⟨k, hk1, hk, rfl, hinv⟩ := hrel
          by_cases hlt : k < s.size
          · have hst : Hid _ := spn_step dgB s k hlt
            cases hg : dgB (s[k].toNat : Int)
            · have HG : Hid _ := hg
              go_wp2_with (go_at_call 149; refine (digit_any _ _).mono ?_; rintro e w' ⟨rfl, rfl⟩)
              go_ret
              have hi := hinv.out
              have h3 := hst.out
              rw [HG.out, if_neg (by simp)] at h3
              exact ⟨ret_bool (celB_no s h0 (by omega)).symm, rfl⟩
            · have HG : Hid _ := hg
              go_wp2_with (go_at_call 149; refine (digit_any _ _).mono ?_; rintro e w' ⟨rfl, rfl⟩)
              go_round
              case rel =>
                have hi := hinv.out
                have h3 := hst.out
                rw [HG.out, if_pos rfl] at h3
                exact ⟨k + 1, by omega, by omega, by go_num, by unfold Hid; omega⟩
              case measure => simp [intOf]; omega
          · go_wp2_with fail
            go_ret
            have e : k = s.size := by omega
            have hi := hinv.out
            rw [e, spn_end] at hi
            exact ⟨ret_bool (celB_yes s (by omega) ha hb (by omega)).symm, rfl⟩
      · have H : Hid (celB s.data.toList = false) := celB_other s h0 (by omega)
        go_enter Tryz.func207, Tryz.ntmps207
        go_wp2_with fail
        go_ret
        exact ⟨ret_bool H.out.symm, rfl⟩
    · have H : Hid (celB s.data.toList = false) := celB_other s h0 (by omega)
      go_enter Tryz.func207, Tryz.ntmps207
      go_wp2_with fail
      go_ret
      exact ⟨ret_bool H.out.symm, rfl⟩
set_option maxHeartbeats 1000000 in
theorem wordKind_any (s : ByteArray) (w : World) (hs : s.size ≤ maxLen) :
    Calls Tryz.prog 186 #[.string s] w fun e w' => e = .returned (.int .i64 (wrdI s.data.toList)) ∧ w' = w := by
  go_enter Tryz.func186, Tryz.ntmps186
  go_wp2_with (go_at_call 207; refine (looks_any s _ hs).mono ?_; rintro e w' ⟨rfl, rfl⟩)
  all_goals
    go_ret
    exact ⟨ret_int (by rw [← ByteArray.toList_eq] at *; simp_all [wrdI]), rfl⟩
end Go.Proofs.YtlpmmmmniojflaaGreatDoor
