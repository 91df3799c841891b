/- Plain mathematics: which cells a Work begins; what a formula of a statement is worth. -/
import Derived.Test.YtiocnfambeochaaGreatDoorQ46
set_option linter.unusedVariables false
set_option linter.unusedSimpArgs false
namespace Go.Proofs.YtiocnfambeochaaGreatDoor

section
variable {E : Env} {fl fs : Nat → ByteArray} {k k' : Kp} {order way : Nat} {bg : List Nat}
/-- What is known of a Work that was to be done. -/
theorem WorkP.done (hE : EnvOK E) (hk : KInv E fl k) (hf : FsT fs) (ho : order < 3) (h : WorkP E k fs order way k' bg) (hn : ¬ workedP k fs) (X : Nat → Ans → Prop)
    (hX : ∀ val mk, (∀ c, Val E.D fs c (val c)) → MarkOK fs k.last mk → XK E val ⟨k.store, fs, k.last, way⟩ (fun c => way = 0 ∧ mk c = false) X) : Done E k fs way X k' bg := by
  obtain ⟨k2, bg2, h2, h3, h4⟩ := work_ok hE.w hk (hf.ok hE).1 ho X hX
  obtain ⟨rfl, rfl⟩ := h.same h2
  exact h4 hn
/-- What is begun are cells that have a formula. -/
theorem WorkP.bgOK (hE : EnvOK E) (hk : KInv E fl k) (hf : FsT fs) (ho : order < 3) (h : WorkP E k fs order way k' bg) : ∀ c ∈ bg, c < 48 ∧ fs c ≠ eB := by
  by_cases hw : workedP k fs
  · rcases h with ⟨_, _, rfl⟩ | ⟨hn, _⟩
    · intro c hc; cases hc
    · exact absurd hw hn
  · obtain ⟨mk, r', cs, _, hi, _, _, _, rfl⟩ := (h.done hE hk hf ho hw (fun _ _ => False) (fun val mk _ _ r cs _ c a hh => absurd hh (by simp))).ex
    intro c hc
    obtain ⟨a, b, _⟩ := hi.bg c hc
    have e : r'.fs = fs := hi.con.1
    rw [e] at a
    exact ⟨b, a⟩
/-- A cell that stays, and whose reads are worth what they were, is not begun. -/
theorem WorkP.idle (hE : EnvOK E) (hk : KInv E fl k) (hf : FsT fs) (ho : order < 3) (h : WorkP E k fs order way k' bg) {c : Nat} (h1 : (k.last c).f = fs c) (h2 : (k.last c).v ≠ cyc) (h3 : way ≠ 0 → Hold (fun c => (k'.last c).v) (k.last c).rs) (h4 : way = 0 → ¬ ∃ n, dn fs k.last n c) : c ∉ bg := by
  by_cases hw : workedP k fs
  · rcases h with ⟨_, _, rfl⟩ | ⟨hn, _⟩
    · simp
    · exact absurd hw hn
  · have hv : ∀ c, Val E.D fs c (k'.last c).v := (h.inv hE hk hf ho).v
    obtain ⟨mk, r', cs, hm, hi, _, _, _, rfl⟩ := (h.done hE hk hf ho hw (fun c' a => way ≠ 0 ∧ c' = c ∧ a = k.last c) (fun val mk hval _ r cs hi c' a ha => by
      obtain ⟨a1, rfl, rfl⟩ := ha
      have e : val = fun c => (k'.last c).v := funext fun i => Val.same (hval i) (hv i)
      refine ⟨by rw [e]; exact h3 a1, fun _ => ?_⟩
      unfold known
      have e1 : r.way = way := hi.con.2.2
      have e2 : r.fs = fs := hi.con.1
      have e3 : r.last = k.last := hi.con.2.1
      rw [e1, if_neg a1]
      refine List.mem_append_left _ ?_
      have hs : stays r c' = true := by
        unfold stays
        rw [e2, e3, decide_eq_true h1, eqB_ne h2]; rfl
      rw [if_pos hs, e3]
      exact List.mem_singleton.2 rfl)).ex
    intro hc
    by_cases h0 : way = 0
    · refine (hi.bg c hc).2.2 ⟨h0, ?_⟩
      cases hb : mk c with
      | false => rfl
      | true => exact absurd ((hm c).1 hb) (h4 h0)
    · exact (hi.x c (k.last c) ⟨h0, rfl, rfl⟩).1 hc
/-- A cell whose formula is new, and of which the store knows nothing, is begun. -/
theorem WorkP.must (hE : EnvOK E) (hk : KInv E fl k) (hf : FsT fs) (ho : order < 3) (h : WorkP E k fs order way k' bg) {c : Nat} (h0 : fs c ≠ eB) (h1 : (k.last c).f ≠ fs c) (h2 : ∀ a ∈ k.store.has, a.f ≠ fs c) (h3 : ∀ i, fs i = fs c → i = c) : c ∈ bg := by
  have hlt : c < 48 := Nat.lt_of_not_le fun hc => h0 (hf.out c hc)
  have hw : ¬ workedP k fs := fun hw => h1 (hw c hlt)
  obtain ⟨mk, r', cs, hm, hi, h3', e1, _, rfl⟩ := (h.done hE hk hf ho hw (fun _ _ => False) (fun val mk _ _ r cs _ c a hh => absurd hh (by simp))).ex
  have ef : r'.fs = fs := hi.con.1
  have el : r'.last = k.last := hi.con.2.1
  rcases hi.done c (h3' c) (by rw [ef]; exact h0) with ⟨_, hb⟩ | ⟨_, hb⟩ | ⟨a, a1, _, a3⟩
  · exact hb
  · have : mk c = true := (hm c).2 ⟨0, fun hh => h1 hh.1⟩
    rw [this] at hb; cases hb
  · rcases a3 with ⟨b1, b2⟩ | b | ⟨c', b1, b2⟩
    · exfalso
      unfold stays at b1
      rw [ef, el] at b1
      simp only [Bool.and_eq_true, decide_eq_true_eq] at b1
      exact h1 b1.1
    · rw [ef] at a1; exact absurd a1 (h2 a b)
    · obtain ⟨b3, b4⟩ := hi.csOK c' b1
      have : (r'.tk c').an.f = r'.fs c' := (hi.sett c' b3).f
      rw [ef] at this a1
      have : c' = c := h3 c' (by rw [← this, ← b2, a1])
      rw [← this]; exact b4
/-- What is in the store behind a Work. -/
theorem WorkP.stored (hE : EnvOK E) (hk : KInv E fl k) (hf : FsT fs) (ho : order < 3) (h : WorkP E k fs order way k' bg) : ∀ a ∈ k'.store.has, a ∈ k.store.has ∨ ∃ c ∈ bg, a.f = fs c := by
  by_cases hw : workedP k fs
  · rcases h with ⟨_, rfl, rfl⟩ | ⟨hn, _⟩
    · intro a ha; exact .inl ha
    · exact absurd hw hn
  · obtain ⟨mk, r', cs, hm, hi, h3', e1, e2, rfl⟩ := (h.done hE hk hf ho hw (fun _ _ => False) (fun val mk _ _ r cs _ c a hh => absurd hh (by simp))).ex
    intro a ha
    rw [e2] at ha
    rcases (hi.stoOK a ha).2 with g | ⟨c', g1, g2⟩
    · exact .inl g
    · obtain ⟨b3, b4⟩ := hi.csOK c' g1
      refine .inr ⟨c', b4, ?_⟩
      rw [g2, (hi.sett c' b3).f]
      exact congrFun hi.con.1 c'
end
/-- What a text comes to. -/
theorem TxtOK.D {E : Env} (hE : EnvOK E) {t : ByteArray} {d : Beh} (h : TxtOK t d) : E.D t = bindA d retA := by
  obtain ⟨code, hc⟩ := h.cm
  exact (hE.c _ _ _ hc).2.1
/-- A cell that must be read to work it out itself hangs on itself. -/
theorem self_hangs {D : ByteArray → Beh} {fs : Nat → ByteArray} {c : Nat} (h : Needs D fs c c) {v : V} (hv : Val D fs c v) : v = cyc := by
  have key : ∀ n u, ¬ ev D fs n c u := by
    intro n
    induction n with
    | zero => intro u hu; exact hu
    | succ n ih =>
      intro u hu
      obtain ⟨u', h'⟩ := h n u hu
      exact ih u' h'
  rcases hv with ⟨n, hn⟩ | ⟨_, e⟩
  · exact absurd hn (key n v)
  · exact e
theorem nm_inj {c d : Nat} (hc : c < 48) (hd : d < 48) (h : nm c = nm d) : c = d := by
  have h1 : (nm c).data.toList = (nm d).data.toList := by rw [h]
  have h2 : [UInt8.ofNat (65 + c % 6), UInt8.ofNat (49 + c / 6)] = [UInt8.ofNat (65 + d % 6), UInt8.ofNat (49 + d / 6)] := h1
  have a1 : (UInt8.ofNat (65 + c % 6)).toNat = (UInt8.ofNat (65 + d % 6)).toNat := by rw [(List.cons.inj h2).1]
  have a2 : (UInt8.ofNat (49 + c / 6)).toNat = (UInt8.ofNat (49 + d / 6)).toNat := by rw [(List.cons.inj (List.cons.inj h2).2).1]
  simp at a1 a2
  omega
theorem hasB_iff {bg : List Nat} (hb : ∀ c ∈ bg, c < 48) {c : Nat} (hc : c < 48) : hasB bg (nm c) = decide (c ∈ bg) := by
  rw [Bool.eq_iff_iff]
  unfold hasB
  rw [List.any_eq_true, decide_eq_true_iff]
  constructor
  · rintro ⟨d, h1, h2⟩
    have h2 : nm d = nm c := by simpa using h2
    rw [← nm_inj (hb d h1) hc h2]; exact h1
  · intro h; exact ⟨c, h, by simp⟩
end Go.Proofs.YtiocnfambeochaaGreatDoor
