/- Texts put together. -/
import Derived.Test.YtiocnfambeochaaGreatDoorQ07
import Derived.Test.YtiocnfambeochaaGreatDoorQ04
/- Plain mathematics: Work as a whole: what is kept, how a round begins, dirty marks, what comes of it. -/
set_option linter.unusedVariables false
set_option linter.unusedSimpArgs false
namespace Go.Proofs.YtiocnfambeochaaGreatDoor

structure Kp where
  last : Nat → Ans
  ch : List Nat
  store : Sto
def dn (fs : Nat → ByteArray) (last : Nat → Ans) : Nat → Nat → Prop
  | 0, c => ¬ ((last c).f = fs c ∧ (last c).v ≠ cyc)
  | n + 1, c => dn fs last n c ∨ ∃ x ∈ (last c).rs, dn fs last n x.nd.c
def MarkOK (fs : Nat → ByteArray) (last : Nat → Ans) (mk : Nat → Bool) : Prop := ∀ c, mk c = true ↔ ∃ n, dn fs last n c
theorem mark_ex (fs : Nat → ByteArray) (last : Nat → Ans) : ∃ mk, MarkOK fs last mk := by
  have : ∀ c, ∃ b : Bool, b = true ↔ ∃ n, dn fs last n c := by
    intro c
    by_cases h : ∃ n, dn fs last n c
    · exact ⟨true, by simp [h]⟩
    · exact ⟨false, by simp [h]⟩
  exact ⟨fun c => Classical.choose (this c), fun c => Classical.choose_spec (this c)⟩
theorem MarkOK.same {fs : Nat → ByteArray} {last : Nat → Ans} {mk mk' : Nat → Bool} (h : MarkOK fs last mk) (h' : MarkOK fs last mk') : mk = mk' := by
  funext c
  rw [Bool.eq_iff_iff, h c, h' c]
def tk0 (fs : Nat → ByteArray) (last : Nat → Ans) (way : Nat) (mk : Nat → Bool) (c : Nat) : Tsk :=
  if fs c = eB then ⟨3, -1, [], 0, retA vN, ans0⟩ else if way = 0 ∧ mk c = false then ⟨3, -1, [], 0, retA vN, last c⟩ else ⟨0, -1, [], 0, retA vN, ans0⟩
def newP (fs : Nat → ByteArray) (k : Kp) (way : Nat) (mk : Nat → Bool) : Rn := ⟨fs, k.last, k.store, way, tk0 fs k.last way mk, []⟩
def roundP (E : Env) (order : Nat) (r : Rn) (ch : List Nat) (r' : Rn) (ch' : List Nat) : Prop :=
  (order = 0 ∧ Ends (chainF E) chainE ⟨0, ch, r⟩ ⟨48, ch', r'⟩) ∨ (order = 1 ∧ Ends (queueF E) queueE ⟨List.range 48, r⟩ ⟨[], r'⟩ ∧ ch' = ch) ∨ (order = 2 ∧ Sus E 48 0 r r' ∧ ch' = ch)
def workedP (k : Kp) (fs : Nat → ByteArray) : Prop := ∀ c, c < 48 → (k.last c).f = fs c
def WorkP (E : Env) (k : Kp) (fs : Nat → ByteArray) (order way : Nat) (k' : Kp) (bg : List Nat) : Prop :=
  (workedP k fs ∧ k' = k ∧ bg = []) ∨ (¬ workedP k fs ∧ ∃ mk r' ch', MarkOK fs k.last mk ∧ roundP E order (newP fs k way mk) k.ch r' ch' ∧ k' = ⟨fun c => (r'.tk c).an, ch', r'.store⟩ ∧ bg = r'.bg)
theorem Sus.same {E : Env} : ∀ (k c : Nat) (r r1 r2 : Rn), Sus E k c r r1 → Sus E k c r r2 → r1 = r2
  | 0, _, _, _, _, h1, h2 => h1.trans h2.symm
  | k + 1, c, r, r1, r2, ⟨u1, a1, b1⟩, ⟨u2, a2, b2⟩ => by
    have := a1.same a2
    cases this
    exact Sus.same k (c + 1) _ _ _ b1 b2
theorem roundP.same {E : Env} {order : Nat} {r r1 r2 : Rn} {ch c1 c2 : List Nat} (h1 : roundP E order r ch r1 c1) (h2 : roundP E order r ch r2 c2) : r1 = r2 ∧ c1 = c2 := by
  rcases h1 with ⟨o1, e1⟩ | ⟨o1, e1, f1⟩ | ⟨o1, e1, f1⟩ <;> rcases h2 with ⟨o2, e2⟩ | ⟨o2, e2, f2⟩ | ⟨o2, e2, f2⟩ <;> try omega
  · have := e1.same e2
    cases this; exact ⟨rfl, rfl⟩
  · have := e1.same e2
    cases this; exact ⟨rfl, f1.trans f2.symm⟩
  · exact ⟨Sus.same _ _ _ _ _ e1 e2, f1.trans f2.symm⟩
theorem WorkP.same {E : Env} {k k1 k2 : Kp} {fs : Nat → ByteArray} {order way : Nat} {b1 b2 : List Nat} (h1 : WorkP E k fs order way k1 b1) (h2 : WorkP E k fs order way k2 b2) : k1 = k2 ∧ b1 = b2 := by
  rcases h1 with ⟨a, e, f⟩ | ⟨a, mk, r', ch', m, h, e, f⟩ <;> rcases h2 with ⟨a', e', f'⟩ | ⟨a', mk', r'', ch'', m', h', e', f'⟩
  · exact ⟨e.trans e'.symm, f.trans f'.symm⟩
  · exact absurd a a'
  · exact absurd a' a
  · have := m.same m'
    subst this
    obtain ⟨rfl, rfl⟩ := h.same h'
    exact ⟨e.trans e'.symm, f.trans f'.symm⟩

structure KInv (E : Env) (fs : Nat → ByteArray) (k : Kp) : Prop where
  fit : ∀ c, fs c ≠ eB → ActN (E.B (fs c)) (E.D (fs c))
  out : ∀ c, 48 ≤ c → fs c = eB
  f : ∀ c, (k.last c).f = fs c
  v : ∀ c, Val E.D fs c (k.last c).v
  none : ∀ c, fs c = eB → k.last c = ans0
  good : ∀ c, fs c ≠ eB → (k.last c).v ≠ cyc → VA E (k.last c) ∧ Hold (fun c => (k.last c).v) (k.last c).rs
  ch : ChOK k.ch
  sw : SW k.store
  sto : ∀ a ∈ k.store.has, VA E a
structure FsOK (E : Env) (fs : Nat → ByteArray) : Prop where
  fit : ∀ c, fs c ≠ eB → ActN (E.B (fs c)) (E.D (fs c))
  out : ∀ c, 48 ≤ c → fs c = eB
theorem KInv.fs {E : Env} {fs : Nat → ByteArray} {k : Kp} (h : KInv E fs k) : FsOK E fs := ⟨h.fit, h.out⟩
theorem clean_ev {E : Env} {fs0 fs : Nat → ByteArray} {k : Kp} (hk : KInv E fs0 k) {mk : Nat → Bool} (hm : MarkOK fs k.last mk) : ∀ (n c : Nat) (v : V), mk c = false → ev E.D fs0 n c v → ev E.D fs n c v
  | 0, _, _, _, h => h
  | n + 1, c, v, hc, h => by
    have hn : ¬ ∃ n, dn fs k.last n c := fun h => by rw [(hm c).2 h] at hc; cases hc
    have h0 : (k.last c).f = fs c ∧ (k.last c).v ≠ cyc := Classical.byContradiction fun h => hn ⟨0, h⟩
    have hf : fs0 c = fs c := by rw [← hk.f c]; exact h0.1
    rcases h with ⟨h1, h2⟩ | ⟨h1, rs, h2, h3, h4⟩
    · exact .inl ⟨by rw [← hf]; exact h1, h2⟩
    · refine .inr ⟨by rw [← hf]; exact h1, rs, by rw [← hf]; exact h2, by rw [← hf]; exact h3, fun x hx => ?_⟩
      obtain ⟨⟨g0, g1, g2, g3⟩, g4⟩ := hk.good c h1 h0.2
      rw [hk.f c] at g1 g2
      have hs := (tr_same rs (k.last c).rs _ _ _ h2 g1 h3 g2 fun r hr r' hr' e => by
        obtain ⟨u, k1, k2⟩ := h4 r hr
        obtain ⟨w1, w2⟩ := g4 r' hr'
        have : u = (k.last r.nd.c).v := Val.same (D := E.D) (fs := fs0) (.inl ⟨n, k1⟩) (hk.v _)
        rw [k2, w1, ← e, this]).1
      obtain ⟨u, k1, k2⟩ := h4 x hx
      refine ⟨u, clean_ev hk hm n _ u ?_ k1, k2⟩
      cases hb : mk x.nd.c with
      | false => rfl
      | true =>
        obtain ⟨m, hm⟩ := (hm _).1 hb
        exact absurd ⟨m + 1, .inr ⟨x, by rw [← hs]; exact hx, hm⟩⟩ hn
theorem new_inv {E : Env} {fs0 fs : Nat → ByteArray} {k : Kp} (hk : KInv E fs0 k) (hfs : FsOK E fs) {mk : Nat → Bool} (hm : MarkOK fs k.last mk) (way : Nat) {val : Nat → V} (hv : ∀ c, Val E.D fs c (val c)) (X : Nat → Ans → Prop) :
    Inv E val ⟨k.store, fs, k.last, way⟩ (fun c => way = 0 ∧ mk c = false) X (newP fs k way mk) [] := by
  have tkE : ∀ c, fs c = eB → (newP fs k way mk).tk c = ⟨3, -1, [], 0, retA vN, ans0⟩ := fun c h => by show tk0 _ _ _ _ _ = _; unfold tk0; rw [if_pos h]
  have tkC : ∀ c, fs c ≠ eB → way = 0 ∧ mk c = false → (newP fs k way mk).tk c = ⟨3, -1, [], 0, retA vN, k.last c⟩ := fun c h h' => by show tk0 _ _ _ _ _ = _; unfold tk0; rw [if_neg h, if_pos h']
  have tkF : ∀ c, fs c ≠ eB → ¬ (way = 0 ∧ mk c = false) → (newP fs k way mk).tk c = ⟨0, -1, [], 0, retA vN, ans0⟩ := fun c h h' => by show tk0 _ _ _ _ _ = _; unfold tk0; rw [if_neg h, if_neg h']
  have hwt : ∀ c, ((newP fs k way mk).tk c).wt = -1 := by
    intro c
    by_cases h : fs c = eB
    · rw [tkE c h]
    · by_cases h' : way = 0 ∧ mk c = false
      · rw [tkC c h h']
      · rw [tkF c h h']
  have clean : ∀ c, way = 0 ∧ mk c = false → (k.last c).f = fs c ∧ (k.last c).v ≠ cyc ∧ val c = (k.last c).v := by
    intro c hc
    have hn : ¬ ∃ n, dn fs k.last n c := fun h => by have := hc.2; rw [(hm c).2 h] at this; cases this
    have h0 : (k.last c).f = fs c ∧ (k.last c).v ≠ cyc := Classical.byContradiction fun h => hn ⟨0, h⟩
    obtain ⟨n, hn⟩ := (hk.v c).ev h0.2
    exact ⟨h0.1, h0.2, (hv c).same (.inl ⟨n, clean_ev hk hm n c _ hc.2 hn⟩)⟩
  refine { hv := hv, fit := hfs.fit, con := ⟨rfl, rfl, rfl⟩, st := ?_, sett := ?_, uns := ?_, wt := ?_, ends := ?_, sto := rfl, sw := hk.sw, stoOK := fun a ha => ⟨hk.sto a ha, .inl ha⟩, lastOK := ?_, nodup := by simp, csOK := by simp, bg := fun c hc => (by cases hc), bgE := fun _ => rfl, done := ?_, cl := ?_, x := ?_ }
  · intro c
    by_cases h : fs c = eB
    · rw [tkE c h]; exact Nat.le_refl _
    · by_cases h' : way = 0 ∧ mk c = false
      · rw [tkC c h h']; exact Nat.le_refl _
      · rw [tkF c h h']; exact Nat.zero_le _
  · intro c h3
    by_cases h : fs c = eB
    · exact { wt := hwt c, f := by rw [tkE c h]; exact h.symm, v := by rw [tkE c h]; exact ((hv c).none h).symm, good := fun g => absurd h g, none := fun _ => by rw [tkE c h] }
    · by_cases h' : way = 0 ∧ mk c = false
      · obtain ⟨c1, c2, c3⟩ := clean c h'
        refine { wt := hwt c, f := by rw [tkC c h h']; exact c1, v := by rw [tkC c h h']; exact c3.symm, good := fun _ _ => ?_, none := fun g => absurd g h }
        rw [tkC c h h']
        have hf : fs0 c = fs c := by rw [← hk.f c]; exact c1
        obtain ⟨g1, g2⟩ := hk.good c (by rw [hf]; exact h) c2
        refine ⟨g1, fun x hx => ?_⟩
        obtain ⟨w1, w2⟩ := g2 x hx
        have hcx : way = 0 ∧ mk x.nd.c = false := by
          refine ⟨h'.1, ?_⟩
          cases hb : mk x.nd.c with
          | false => rfl
          | true =>
            obtain ⟨m, hm'⟩ := (hm _).1 hb
            have : mk c = true := (hm c).2 ⟨m + 1, .inr ⟨x, hx, hm'⟩⟩
            rw [h'.2] at this; cases this
        rw [(clean _ hcx).2.2]
        exact ⟨w1, w2⟩
      · rw [tkF c h h'] at h3; cases h3
  · intro c h3
    by_cases h : fs c = eB
    · rw [tkE c h] at h3; exact absurd rfl h3
    · by_cases h' : way = 0 ∧ mk c = false
      · rw [tkC c h h'] at h3; exact absurd rfl h3
      · refine { f := h, lt := ?_, kn := ?_, held := ?_, held0 := ?_, run := ?_ }
        · exact Nat.lt_of_not_le fun hc => h (hfs.out c hc)
        · rw [tkF c h h']; intro a ha; cases ha
        · rw [tkF c h h']; intro a l e; cases e
        · rw [tkF c h h']; intro _; rfl
        · rw [tkF c h h']; intro e; cases e
  · intro c; rw [hwt c]; exact ⟨Int.le_refl _, fun e => absurd e (by decide)⟩
  · intro c
    refine ⟨1, ?_⟩
    show (if 0 ≤ (c : Int) then (newP fs k way mk).wts (c : Int).toNat else -1) = -1
    rw [if_pos (by omega), Int.toNat_natCast]
    exact hwt c
  · intro c hs h0
    have hs : (decide ((k.last c).f = fs c) && !(k.last c).v.eqB cyc) = true := hs
    simp only [Bool.and_eq_true, decide_eq_true_eq, Bool.not_eq_true'] at hs
    refine (hk.good c ?_ ?_).1
    · rw [← hk.f c, hs.1]; exact h0
    · intro e; rw [e, eqB_self] at hs; cases hs.2
  · intro c h3 h
    have h : fs c ≠ eB := h
    by_cases h' : way = 0 ∧ mk c = false
    · exact .inr (.inl h')
    · rw [tkF c h h'] at h3; cases h3
  · intro c h3 h'
    by_cases h : fs c = eB
    · rw [tkE c h] at h3; exact h3 rfl
    · rw [tkC c h h'] at h3; exact h3 rfl
  · intro c a _
    refine ⟨fun h => (by cases h), ?_, ?_⟩
    · by_cases h : fs c = eB
      · rw [tkE c h]; decide
      · by_cases h' : way = 0 ∧ mk c = false
        · rw [tkC c h h']; show 3 ≠ 2; decide
        · rw [tkF c h h']; decide
    · by_cases h : fs c = eB
      · rw [tkE c h]; intro e; cases e
      · by_cases h' : way = 0 ∧ mk c = false
        · rw [tkC c h h']; intro e; cases e
        · rw [tkF c h h']; intro e; cases e
theorem new_wait (fs : Nat → ByteArray) (k : Kp) (way : Nat) (mk : Nat → Bool) (c : Nat) : waitB (newP fs k way mk) c = false := by
  have : ((newP fs k way mk).tk c).wt = -1 := by
    show (tk0 _ _ _ _ _).wt = _
    unfold tk0
    split
    · rfl
    · split <;> rfl
  unfold waitB
  rw [this]
  simp
structure Done (E : Env) (k : Kp) (fs : Nat → ByteArray) (way : Nat) (X : Nat → Ans → Prop) (k' : Kp) (bg : List Nat) : Prop where
  ex : ∃ mk r' cs, MarkOK fs k.last mk ∧ Inv E (fun c => (k'.last c).v) ⟨k.store, fs, k.last, way⟩ (fun c => way = 0 ∧ mk c = false) X r' cs ∧ (∀ c, (r'.tk c).st = 3) ∧ k'.last = (fun c => (r'.tk c).an) ∧ k'.store = r'.store ∧ bg = r'.bg
theorem work_ok {E : Env} (hW : RightW E) {fs0 fs : Nat → ByteArray} {k : Kp} (hk : KInv E fs0 k) (hfs : FsOK E fs) {order way : Nat} (ho : order < 3) (X : Nat → Ans → Prop)
    (hX : ∀ val mk, (∀ c, Val E.D fs c (val c)) → MarkOK fs k.last mk → XK E val ⟨k.store, fs, k.last, way⟩ (fun c => way = 0 ∧ mk c = false) X) :
    ∃ k' bg, WorkP E k fs order way k' bg ∧ KInv E fs k' ∧ (¬ workedP k fs → Done E k fs way X k' bg) := by
  by_cases hw : workedP k fs
  · refine ⟨k, [], .inl ⟨hw, rfl, rfl⟩, ?_, fun h => absurd hw h⟩
    have : fs = fs0 := by
      funext c
      by_cases hc : c < 48
      · rw [← hw c hc, hk.f c]
      · rw [hfs.out c (by omega), hk.out c (by omega)]
    rw [this]; exact hk
  · obtain ⟨val, hv⟩ := val_all E.D fs
    obtain ⟨mk, hm⟩ := mark_ex fs k.last
    have h0 := new_inv hk hfs hm way hv X
    have hX := hX val mk hv hm
    obtain ⟨r', ch', e1, ⟨cs, i1⟩, i2, i3, i4⟩ : ∃ r' ch', roundP E order (newP fs k way mk) k.ch r' ch' ∧ (∃ cs, Inv E val ⟨k.store, fs, k.last, way⟩ (fun c => way = 0 ∧ mk c = false) X r' cs) ∧ Frd (newP fs k way mk) r' ∧ ChOK ch' ∧ ∀ x, x < 48 → (r'.tk x).st = 3 := by
      have : order = 0 ∨ order = 1 ∨ order = 2 := by omega
      rcases this with h | h | h
      · obtain ⟨ch', r', a, b, c, d, e⟩ := chain_all hW hX hk.ch h0 (new_wait fs k way mk)
        exact ⟨r', ch', .inl ⟨h, a⟩, b, c, d, e⟩
      · obtain ⟨r', a, b, c, e⟩ := queue_all hW hX h0
        exact ⟨r', k.ch, .inr (.inl ⟨h, a, rfl⟩), b, c, hk.ch, e⟩
      · obtain ⟨r', a, b, c, e⟩ := sus_all hW hX 48 0 _ _ (by omega) h0 (new_wait fs k way mk)
        exact ⟨r', k.ch, .inr (.inr ⟨h, a, rfl⟩), b, c, hk.ch, fun x hx => e x (by omega) (by omega)⟩
    have hfs' : r'.fs = fs := i2.fs
    have hall : ∀ x, (r'.tk x).st = 3 := by
      intro x
      by_cases hx : x < 48
      · exact i4 x hx
      · refine i2.done x ?_
        show (tk0 _ _ _ _ _).st = 3
        unfold tk0
        rw [if_pos (hfs.out x (by omega))]
    have hval : (fun c => (r'.tk c).an.v) = val := by
      funext c; exact (i1.sett c (hall c)).v
    refine ⟨⟨fun c => (r'.tk c).an, ch', r'.store⟩, r'.bg, .inr ⟨hw, mk, r', ch', hm, e1, rfl, rfl⟩, ?_, fun _ => ⟨mk, r', cs, hm, ?_, hall, rfl, rfl, rfl⟩⟩
    · refine { fit := hfs.fit, out := hfs.out, f := ?_, v := ?_, none := ?_, good := ?_, ch := i3, sw := i1.sw, sto := fun a ha => (i1.stoOK a ha).1 }
      · intro c; rw [← hfs']; exact (i1.sett c (hall c)).f
      · intro c
        show Val E.D fs c (r'.tk c).an.v
        rw [(i1.sett c (hall c)).v]; exact hv c
      · intro c h; rw [← hfs'] at h; exact (i1.sett c (hall c)).none h
      · intro c h hc
        have hc : (r'.tk c).an.v ≠ cyc := hc
        rw [(i1.sett c (hall c)).v] at hc
        rw [← hfs'] at h
        show VA E (r'.tk c).an ∧ Hold (fun c => (r'.tk c).an.v) (r'.tk c).an.rs
        rw [hval]
        exact (i1.sett c (hall c)).good h hc
    · show Inv E (fun c => (r'.tk c).an.v) _ _ X r' cs
      rw [hval]; exact i1
end Go.Proofs.YtiocnfambeochaaGreatDoor

/- How a sheet lies in memory: its formulas, bounds, and what it keeps. New. -/
set_option linter.unusedVariables false
set_option linter.unusedSimpArgs false
namespace Go.Proofs.YtiocnfambeochaaGreatDoor
open Go.RowKit

def rdC (r : Rd) : List Value := [.int .i64 r.nd.c, .bool r.nd.a, .int .i64 r.w.k, .int .i64 r.w.n, .string r.w.s]
def RdSl (w : World) (v : Value) (rs : List Rd) : Prop := Slc w 274 5 v rs.length (rs.flatMap rdC)
structure AnsAt (w : World) (b o : Nat) (a : Ans) (Q : Nat → Prop) : Prop where
  f : w.cell? ⟨b, o, none⟩ = some (.string a.f)
  rs : ∃ v, w.cell? ⟨b, o + 1, none⟩ = some v ∧ RdSl w v a.rs ∧ ∀ g, v.ownBlock = some g → Q g
  k : w.cell? ⟨b, o + 2, none⟩ = some (.int .i64 a.v.k)
  n : w.cell? ⟨b, o + 3, none⟩ = some (.int .i64 a.v.n)
  s : w.cell? ⟨b, o + 4, none⟩ = some (.string a.v.s)
structure KR (w : World) (b o : Nat) (k : Kp) (Q : Nat → Prop) : Prop where
  last : ∀ c, c < 48 → AnsAt w b (o + c * 5) (k.last c) Q
  chl : k.ch.length = 48
  ch : ∀ (j c : Nat), k.ch[j]? = some c → w.cell? ⟨b, o + 240 + j, none⟩ = some (.int .i64 c)
  places : w.cell? ⟨b, o + 288, none⟩ = some (.int .i64 k.store.places)
  size : w.cell? ⟨b, o + 289, none⟩ = some (.int .i64 k.store.size)
  next : w.cell? ⟨b, o + 290, none⟩ = some (.int .i64 k.store.next)
  stl : k.store.kept.length = 64
  kept : ∀ (j : Nat) (a : Ans), k.store.kept[j]? = some a → AnsAt w b (o + 291 + j * 5) a Q
structure SR (w : World) (x : Nat) (fs : Nat → ByteArray) (bd : Nat → Int × Int) (k : Kp) : Prop where
  blk : ∃ cs, w.heap[x]? = some (.cells cs 104 (0, 0)) ∧ cs.size = 755
  fs : ∀ c, c < 48 → w.cell? ⟨x, c, none⟩ = some (.string (fs c))
  bdr : ∀ c, I64 (bd c).1 ∧ I64 (bd c).2
  bnd : ∀ c, c < 48 → w.cell? ⟨x, 48 + c * 2, none⟩ = some (.int .i64 (bd c).1) ∧ w.cell? ⟨x, 48 + c * 2 + 1, none⟩ = some (.int .i64 (bd c).2)
  kp : KR w x 144 k (fun _ => True)
theorem SR.lt {w : World} {x : Nat} {fs : Nat → ByteArray} {bd : Nat → Int × Int} {k : Kp} (h : SR w x fs bd k) : x < w.heap.size := by
  obtain ⟨cs, h1, _⟩ := h.blk
  exact (Array.getElem?_eq_some_iff.1 h1).1
theorem AnsAt.kept {w w' : World} {b o b' o' : Nat} {a : Ans} {Q Q' : Nat → Prop} (h : AnsAt w b o a Q) (hc : ∀ t, t < 5 → w'.cell? ⟨b', o' + t, none⟩ = w.cell? ⟨b, o + t, none⟩)
    (hr : ∀ g cur, w.heap[g]? = some (.cells cur 274 (0, 0)) → Q g → w'.heap[g]? = w.heap[g]? ∧ Q' g) : AnsAt w' b' o' a Q' where
  f := by rw [show o' = o' + 0 from rfl, hc 0 (by omega)]; exact h.f
  rs := by
    obtain ⟨v, h1, h2, h3⟩ := h.rs
    have hq : ∀ g, v.ownBlock = some g → w'.heap[g]? = w.heap[g]? ∧ Q' g := by
      intro g hg
      rcases h2.2 with ⟨rfl, _⟩ | ⟨g', o, cap, cur, rfl, hb, _⟩
      · cases hg
      · cases hg; exact hr _ _ hb (h3 _ rfl)
    exact ⟨v, by rw [hc 1 (by omega)]; exact h1, h2.kept fun g hg => (hq g hg).1, fun g hg => (hq g hg).2⟩
  k := by rw [hc 2 (by omega)]; exact h.k
  n := by rw [hc 3 (by omega)]; exact h.n
  s := by rw [hc 4 (by omega)]; exact h.s
theorem KR.keep {w w' : World} {b o b' o' : Nat} {k : Kp} {Q Q' : Nat → Prop} (h : KR w b o k Q) (hc : ∀ t, t < 611 → w'.cell? ⟨b', o' + t, none⟩ = w.cell? ⟨b, o + t, none⟩)
    (hr : ∀ g cur, w.heap[g]? = some (.cells cur 274 (0, 0)) → Q g → w'.heap[g]? = w.heap[g]? ∧ Q' g) : KR w' b' o' k Q' where
  last := fun c hlt => (h.last c hlt).kept (fun t ht => by rw [Nat.add_assoc, Nat.add_assoc]; exact hc _ (by omega)) hr
  chl := h.chl
  ch := fun j c hj => by
    have hl := (List.getElem?_eq_some_iff.1 hj).1
    rw [h.chl] at hl
    rw [Nat.add_assoc, hc _ (by omega), ← Nat.add_assoc]; exact h.ch j c hj
  places := by rw [hc _ (by omega)]; exact h.places
  size := by rw [hc _ (by omega)]; exact h.size
  next := by rw [hc _ (by omega)]; exact h.next
  stl := h.stl
  kept := fun j a hj => by
    have hl := (List.getElem?_eq_some_iff.1 hj).1
    rw [h.stl] at hl
    exact (h.kept j a hj).kept (fun t ht => by rw [Nat.add_assoc, Nat.add_assoc, Nat.add_assoc, Nat.add_assoc]; exact hc _ (by omega)) hr
structure Only (x : Nat) (w w' : World) : Prop where
  os : w'.os = w.os
  tape : w'.tape = w.tape
  output : w'.output = w.output
  size : w.heap.size ≤ w'.heap.size
  block : ∀ k, k < w.heap.size → k ≠ x → w'.heap[k]? = w.heap[k]?
theorem Only.refl (x : Nat) (w : World) : Only x w w := ⟨rfl, rfl, rfl, Nat.le_refl _, fun _ _ _ => rfl⟩
theorem Only.trans {x : Nat} {a b c : World} (h : Only x a b) (g : Only x b c) : Only x a c :=
  ⟨g.os.trans h.os, g.tape.trans h.tape, g.output.trans h.output, Nat.le_trans h.size g.size, fun k hk hx => (g.block k (Nat.lt_of_lt_of_le hk h.size) hx).trans (h.block k hk hx)⟩
theorem Below.only {w w' : World} (h : Below w.heap.size w w') (x : Nat) : Only x w w' := ⟨h.os, h.tape, h.output, h.size, fun k hk _ => h.block k hk⟩
theorem Only.below {x B : Nat} {w w' : World} (h : Only x w w') (hx : B ≤ x) (hB : B ≤ w.heap.size) : Below B w w' := ⟨h.os, h.tape, h.output, h.size, fun k hk => h.block k (by omega) (by omega)⟩
theorem SR.only {w w' : World} {x y : Nat} {fs : Nat → ByteArray} {bd : Nat → Int × Int} {k : Kp} (h : SR w x fs bd k) (ho : Only y w w') (hne : x ≠ y) (hy : ∀ cur, w.heap[y]? ≠ some (.cells cur 274 (0, 0))) : SR w' x fs bd k := by
  have hb := ho.block x h.lt hne
  have hc : ∀ t, w'.cell? ⟨x, t, none⟩ = w.cell? ⟨x, t, none⟩ := fun t => World.cell?_of_block (w := w) hb
  obtain ⟨cs, h1, h2⟩ := h.blk
  refine { blk := ⟨cs, by rw [hb]; exact h1, h2⟩, fs := fun c hl => by rw [hc]; exact h.fs c hl, bdr := h.bdr, bnd := fun c hl => by rw [hc, hc]; exact h.bnd c hl, kp := h.kp.keep (fun t _ => hc _) fun g cur hg _ => ⟨ho.block g (Array.getElem?_eq_some_iff.1 hg).1 (fun e => hy cur (e ▸ hg)), trivial⟩ }
theorem SR.below {w w' : World} {x : Nat} {fs : Nat → ByteArray} {bd : Nat → Int × Int} {k : Kp} (h : SR w x fs bd k) (hb : Below w.heap.size w w') : SR w' x fs bd k :=
  h.only (y := w.heap.size) (Below.only hb _) (by have := h.lt; omega) (fun cur => by rw [Array.getElem?_eq_none (Nat.le_refl _)]; intro e; cases e)
theorem SR.notRead {w : World} {x : Nat} {fs : Nat → ByteArray} {bd : Nat → Int × Int} {k : Kp} (h : SR w x fs bd k) : ∀ cur, w.heap[x]? ≠ some (.cells cur 274 (0, 0)) := by
  obtain ⟨cs, h1, _⟩ := h.blk
  intro cur e
  rw [h1] at e
  cases e

def zAns : List Value := [.string eB, .slice none 0 0, .int .i64 0, .int .i64 0, .string eB]
theorem flat_rep {l : List Value} : ∀ (n i t : Nat), i < n → t < l.length → ((List.replicate n l).flatten)[i * l.length + t]? = l[t]?
  | 0, i, t, h, _ => absurd h (by omega)
  | n + 1, i, t, h, ht => by
    rw [List.replicate_succ, List.flatten_cons]
    cases i with
    | zero => rw [Nat.zero_mul, Nat.zero_add, List.getElem?_append_left ht]
    | succ i =>
      have e : (i + 1) * l.length + t = l.length + (i * l.length + t) := by rw [Nat.succ_mul]; omega
      rw [e, List.getElem?_append_right (by omega), Nat.add_sub_cancel_left]
      exact flat_rep n i t (by omega) ht
theorem z_last : Tryz.zeroCells102.toList.take 240 = (List.replicate 48 zAns).flatten := by kernel_rfl
theorem z_kept : Tryz.zeroCells102.toList.drop 291 = (List.replicate 64 zAns).flatten := by kernel_rfl
theorem z_mid : Tryz.zeroCells102[289]? = some (.int .i64 0) ∧ Tryz.zeroCells102[290]? = some (.int .i64 0) := by constructor <;> kernel_rfl
theorem z_lastAt (c t : Nat) (hc : c < 48) (ht : t < 5) : Tryz.zeroCells102[c * 5 + t]? = zAns[t]? := by
  have := congrArg (fun l => l[c * 5 + t]?) z_last
  simp only [List.getElem?_take, if_pos (show c * 5 + t < 240 by omega), Array.getElem?_toList] at this
  rw [this]
  exact flat_rep (l := zAns) 48 c t hc ht
theorem z_keptAt (j t : Nat) (hj : j < 64) (ht : t < 5) : Tryz.zeroCells102[291 + (j * 5 + t)]? = zAns[t]? := by
  have := congrArg (fun l => l[j * 5 + t]?) z_kept
  simp only [List.getElem?_drop, Array.getElem?_toList] at this
  rw [this]
  exact flat_rep (l := zAns) 64 j t hj ht
theorem z_texts : Tryz.zeroCells104.toList.take 48 = List.replicate 48 (.string eB) := by kernel_rfl
theorem size104 : Tryz.zeroCells104.size = 755 := by kernel_rfl
def k0 (n : Nat) : Kp := ⟨fun _ => ans0, List.range 48, ⟨n, 0, 0, List.replicate 64 ans0⟩⟩
def bd0 : Nat → Int × Int := fun _ => (-9223372036854775808, 9223372036854775807)
def fs0 : Nat → ByteArray := fun _ => eB
structure ShZ (cs K : Array Value) (j : Nat) : Prop where
  size : cs.size = 755
  texts : ∀ c, c < 48 → cs[c]? = some (.string eB)
  lows : ∀ c, c < j → cs[48 + c * 2]? = some (.int .i64 (-9223372036854775808)) ∧ cs[48 + c * 2 + 1]? = some (.int .i64 9223372036854775807)
  kept : ∀ t, t < 611 → cs[144 + t]? = K[t]?
theorem shZ_new {K : Array Value} (hK : K.size = 611) : ShZ (layAt Tryz.zeroCells104 144 K) K 0 where
  size := by rw [layAt_size, size104]
  texts := fun c hc => by
    rw [layAt_get, if_neg (by omega)]
    have := congrArg (fun l => l[c]?) z_texts
    simp only [List.getElem?_take, if_pos hc, List.getElem?_replicate, Array.getElem?_toList] at this
    exact this
  lows := fun c hc => absurd hc (by omega)
  kept := fun t ht => by rw [layAt_get, if_pos (by rw [hK, size104]; omega), Nat.add_sub_cancel_left]
theorem shZ_next {cs K : Array Value} {j : Nat} (h : ShZ cs K j) (hj : j < 48) : ShZ ((cs.setIfInBounds (48 + j * 2) (.int .i64 (-9223372036854775808))).setIfInBounds (48 + j * 2 + 1) (.int .i64 9223372036854775807)) K (j + 1) where
  size := by simp [h.size]
  texts := fun c hc => by rw [Array.getElem?_setIfInBounds_ne (by omega), Array.getElem?_setIfInBounds_ne (by omega)]; exact h.texts c hc
  lows := fun c hc => by
    have hs := h.size
    by_cases e : c = j
    · subst e
      refine ⟨?_, ?_⟩
      · rw [Array.getElem?_setIfInBounds_ne (by omega), Array.getElem?_setIfInBounds_self_of_lt (by omega)]
      · rw [Array.getElem?_setIfInBounds_self_of_lt (by simp; omega)]
    · have h2 := h.lows c (by omega)
      refine ⟨?_, ?_⟩
      · rw [Array.getElem?_setIfInBounds_ne (by omega), Array.getElem?_setIfInBounds_ne (by omega)]; exact h2.1
      · rw [Array.getElem?_setIfInBounds_ne (by omega), Array.getElem?_setIfInBounds_ne (by omega)]; exact h2.2
  kept := fun t ht => by rw [Array.getElem?_setIfInBounds_ne (by omega), Array.getElem?_setIfInBounds_ne (by omega)]; exact h.kept t ht
theorem ansAt_zero {w : World} {b o : Nat} {Q : Nat → Prop} (h : ∀ t, t < 5 → w.cell? ⟨b, o + t, none⟩ = zAns[t]?) : AnsAt w b o ans0 Q where
  f := h 0 (by omega)
  rs := ⟨.slice none 0 0, h 1 (by omega), slc_nil _ _ _, fun g hg => by cases hg⟩
  k := h 2 (by omega)
  n := h 3 (by omega)
  s := h 4 (by omega)
theorem SR.new {w : World} {cs K : Array Value} {n : Nat} (h : ShZ cs K 48) (hK : KpZ K n 48) : SR (w.alloc (.cells cs 104)) w.heap.size fs0 bd0 (k0 n) := by
  have hb : (w.alloc (.cells cs 104)).heap[w.heap.size]? = some (.cells cs 104 (0, 0)) := heap_alloc_new w _
  have hc : ∀ t, (w.alloc (.cells cs 104)).cell? ⟨w.heap.size, t, none⟩ = cs[t]? := fun t => cell_of_row _ _ t cs 104 (0, 0) hb
  have hk : ∀ t, t < 611 → (w.alloc (.cells cs 104)).cell? ⟨w.heap.size, 144 + t, none⟩ = K[t]? := fun t ht => by rw [hc]; exact h.kept t ht
  refine { blk := ⟨cs, hb, h.size⟩, fs := fun c hl => by rw [hc]; exact h.texts c hl, bdr := fun c => by unfold bd0 I64; simp, bnd := fun c hl => by rw [hc, hc]; exact h.lows c hl, kp := ?_ }
  refine { last := fun c hl => ansAt_zero fun t ht => ?_, chl := by simp [k0], ch := fun j c hj => ?_, places := ?_, size := ?_, next := ?_, stl := by simp [k0], kept := fun j a hj => ?_ }
  · rw [Nat.add_assoc, hk _ (by omega), hK.rest _ (by omega) (by omega), z_lastAt c t hl ht]
  · have hj' : (List.range 48)[j]? = some c := hj
    obtain ⟨hlt, he⟩ := List.getElem?_eq_some_iff.1 hj'
    rw [List.length_range] at hlt
    rw [List.getElem_range] at he
    subst he
    rw [Nat.add_assoc, hk _ (by omega)]; exact hK.chain j hlt
  · rw [hk _ (by omega)]; exact hK.places
  · rw [hk _ (by omega), hK.rest _ (by omega) (by omega)]; exact z_mid.1
  · rw [hk _ (by omega), hK.rest _ (by omega) (by omega)]; exact z_mid.2
  · have hj' : (List.replicate 64 ans0)[j]? = some a := hj
    rw [List.getElem?_replicate] at hj'
    split at hj'
    · rename_i hlt
      cases hj'
      refine ansAt_zero fun t ht => ?_
      have e : 144 + 291 + j * 5 + t = 144 + (291 + (j * 5 + t)) := by omega
      rw [e, hk _ (by omega), hK.rest _ (by omega) (by omega), z_keptAt j t hlt ht]
    · cases hj'

set_option maxHeartbeats 4000000 in
set_option maxRecDepth 100000 in
theorem new_any (n : Nat) (hn : n ≤ 64) (w : World) :
    Calls Tryz.prog 43 #[.int .i64 n] w fun e w' => ∃ x, e = .returned (.tuple #[.pointer (some ⟨x, 0, none⟩), .int .i64 0]) ∧ Hid (w.heap.size ≤ x) ∧ Hid (Below w.heap.size w w') ∧ Hid (SR w' x fs0 bd0 (k0 n)) := by
  have h1 : ¬ (n : Int) < 0 := by omega
  have h2 : ¬ (64 : Int) < n := by omega
  go_enter Tryz.func43, Tryz.ntmps43
  go_wp2_with fail
  refine (newKept_w n _).mono ?_
  rintro e w1 ⟨K, rfl, hK, hb1⟩
  have hsz := hK.out.size
  obtain ⟨C, hC⟩ : ∃ C, Array.foldl (fun (cs : Array Value) x => cs.setIfInBounds (144 + x.snd) x.fst) Tryz.zeroCells104 K.zipIdx 0 611 = C := ⟨_, rfl⟩
  have HC : Hid (ShZ C K 0) := by
    have := shZ_new hsz
    unfold layAt at this
    rw [hsz, hC] at this
    exact this
  have hcs := HC.out.size
  go_wp2_with fail
  clear hC hcs hsz
  go_loopw [16] (fun x wr => ∃ (j : Nat) (cs : Array Value), j ≤ 48 ∧ x = .int .i64 j ∧ wr = w1.alloc (.cells cs 104) ∧ Hid (ShZ cs K j)) (fun x _ => 48 - (intOf x).toNat)
  case atStart => exact ⟨0, C, by omega, rfl, rfl, HC.out⟩
  case round =>
    obtain ⟨j, cs, hj, rfl, rfl, hN⟩ := hrel
    by_cases hlt : j < 48
    · have hlti : (j : Int) < 48 := by omega
      have hsz := hN.out.size
      obtain ⟨v0, hv0⟩ : ∃ v, cs[48 + j * 2]? = some v := ⟨_, Array.getElem?_eq_getElem (by omega)⟩
      obtain ⟨v1, hv1⟩ : ∃ v, (cs.setIfInBounds (48 + j * 2) (.int .i64 (-9223372036854775808)))[48 + j * 2 + 1]? = some v := ⟨_, Array.getElem?_eq_getElem (by simp; omega)⟩
      clear hsz
      go_wp2_with fail
      exact ⟨⟨j + 1, _, by omega, by go_num, rfl, shZ_next hN.out hlt⟩, by simp [intOf]; omega⟩
    · have hlti : ¬ (j : Int) < 48 := by omega
      have e : j = 48 := by omega
      subst e
      go_wp2_with fail
      go_ret2
      exact ⟨_, rfl, hb1.out.size, hb1.out.alloc hb1.out.size _, SR.new hN.out hK.out⟩
end Go.Proofs.YtiocnfambeochaaGreatDoor
