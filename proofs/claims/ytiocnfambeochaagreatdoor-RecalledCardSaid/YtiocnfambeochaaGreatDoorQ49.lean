/- Texts put together. -/
import Derived.Test.YtiocnfambeochaaGreatDoorVd
/- Plain mathematics: what comes of the statement Choice. -/
set_option linter.unusedVariables false
set_option linter.unusedSimpArgs false
namespace Go.Proofs.YtiocnfambeochaaGreatDoor

def nT (n : Nat) : ByteArray := ⟨(Lib.decDigits n).toArray⟩
/-- The sheet of the statement: the choice reads a number; the other cell has this formula. -/
def chF (left : Bool) (n : Nat) (o : ByteArray) : Nat → ByteArray := fun c => if c = 3 then tIfT else if c = 0 then tFlag left else if c = tcC left then nT n else if c = ocC left then o else eB
theorem chF_start (left : Bool) (n : Nat) (o : ByteArray) : updF (updF (updF (updF fs0 3 tIfT) 0 (tFlag left)) (tcC left) (nT n)) (ocC left) o = chF left n o := by
  funext c
  unfold updF chF fs0 tcC ocC
  cases left <;> simp only [if_true, Bool.false_eq_true, if_false] <;> (repeat' split) <;> first | rfl | omega
theorem chF_other (left : Bool) (n : Nat) (o o' : ByteArray) : updF (chF left n o) (ocC left) o' = chF left n o' := by
  funext c
  unfold updF chF tcC ocC
  cases left <;> simp only [if_true, Bool.false_eq_true, if_false] <;> (repeat' split) <;> first | rfl | omega
theorem chF_taken (left : Bool) (n m : Nat) (o : ByteArray) : updF (chF left n o) (tcC left) (nT m) = chF left m o := by
  funext c
  unfold updF chF tcC ocC
  cases left <;> simp only [if_true, Bool.false_eq_true, if_false] <;> (repeat' split) <;> first | rfl | omega
theorem chF_3 (left : Bool) (n : Nat) (o : ByteArray) : chF left n o 3 = tIfT := rfl
theorem chF_0 (left : Bool) (n : Nat) (o : ByteArray) : chF left n o 0 = tFlag left := rfl
theorem chF_t (left : Bool) (n : Nat) (o : ByteArray) : chF left n o (tcC left) = nT n := by cases left <;> rfl
theorem chF_o (left : Bool) (n : Nat) (o : ByteArray) : chF left n o (ocC left) = o := by cases left <;> rfl
section
variable {E : Env} {left : Bool} {n : Nat} {o : ByteArray} {val : Nat → V}
theorem ch_v0 (hE : EnvOK E) (hv : ∀ c, Val E.D (chF left n o) c (val c)) : val 0 = vB left := by
  refine (val_of hv (c := 0) (by rw [chF_0]; exact (txt_flag left).ne) (rs := []) trivial (Hold.nil _) ?_).1
  rw [chF_0, (txt_flag left).D hE]
  cases left <;> rfl
theorem ch_vt (hE : EnvOK E) (hn : n < 1000) (hv : ∀ c, Val E.D (chF left n o) c (val c)) : val (tcC left) = vI n := by
  refine (val_of hv (c := tcC left) (by rw [chF_t]; exact (txt_num hn).ne) (rs := []) trivial (Hold.nil _) ?_).1
  rw [chF_t]
  show E.D (nT n) [] = _
  rw [show E.D (nT n) = bindA (retA (vI n)) retA from (txt_num hn).D hE]
  rfl
/-- What the choice reads. -/
def ifRs (left : Bool) (n : Nat) : List Rd := [⟨⟨0, false⟩, vB left⟩, ⟨⟨tcC left, false⟩, vI n⟩]
theorem if_tr (left : Bool) (n : Nat) : Tr (bindA dIf retA) (ifRs left n) ∧ bindA dIf retA (ws (ifRs left n)) = .inl (vI n) := by
  cases left
  · refine ⟨⟨rfl, ?_, trivial⟩, ?_⟩
    · show bindA dIf retA [vB false] = .inr ⟨2, false⟩
      kernel_rfl
    · show bindA dIf retA [vB false, vI n] = .inl (vI n)
      rfl
  · exact ⟨⟨rfl, rfl, trivial⟩, rfl⟩
theorem if_hold (hE : EnvOK E) (hn : n < 1000) (hv : ∀ c, Val E.D (chF left n o) c (val c)) : Hold val (ifRs left n) := by
  intro r hr
  unfold ifRs at hr
  simp only [List.mem_cons, List.not_mem_nil, or_false] at hr
  rcases hr with rfl | rfl
  · rw [ch_v0 hE hv]
    exact ⟨rfl, by unfold cyc vE vB; simp⟩
  · rw [ch_vt hE hn hv]
    exact ⟨rfl, by unfold cyc vE vI; simp⟩
theorem ch_v3 (hE : EnvOK E) (hn : n < 1000) (hv : ∀ c, Val E.D (chF left n o) c (val c)) : val 3 = vI n := by
  have h := if_tr left n
  rw [← txt_if.D hE] at h
  exact (val_of hv (c := 3) (by rw [chF_3]; exact txt_if.ne) (rs := ifRs left n) h.1 (if_hold hE hn hv) h.2).1
theorem one_hold (hE : EnvOK E) (hn : n < 1000) (hv : ∀ c, Val E.D (chF left n o) c (val c)) : Hold val [⟨⟨3, false⟩, vI n⟩] := by
  intro r hr
  rw [List.mem_singleton] at hr
  subst hr
  rw [ch_v3 hE hn hv]
  exact ⟨rfl, by unfold cyc vE vI; simp⟩
theorem ch_ring (hE : EnvOK E) (hn : n < 1000) (hv : ∀ c, Val E.D (chF left n (tRing left)) c (val c)) : val (ocC left) = cyc := by
  refine self_hangs (needs_of hv (c := ocC left) (by rw [chF_o]; exact (txt_ring left).ne) (rs := [⟨⟨3, false⟩, vI n⟩]) ?_ (one_hold hE hn hv) (nd := ⟨ocC left, false⟩) ?_) (hv _)
  · rw [chF_o, (txt_ring left).D hE]; exact ⟨rfl, trivial⟩
  · rw [chF_o, (txt_ring left).D hE]; rfl
theorem add_small {n : Nat} (hn : n < 1000) : comb 5 (vI n) (vI 1) = vI ((n : Int) + 1) := by
  have h1 : comb 5 (vI n) (vI 1) = vAdd (vI n) (vI 1) := by unfold comb; rw [if_pos rfl]
  have h2 : vAdd (vI n) (vI 1) = vNum ((n : Int) + 1) := by unfold vAdd; rw [if_pos (by unfold vI; exact ⟨rfl, rfl⟩)]; unfold vI; rfl
  have h3 : inR ((n : Int) + 1) = true := by unfold inR; exact decide_eq_true (by omega)
  rw [h1, h2]
  unfold vNum
  rw [if_pos h3]
theorem ch_inc (hE : EnvOK E) (hn : n < 1000) (hv : ∀ c, Val E.D (chF left n tInc) c (val c)) : val (ocC left) = vI ((n : Int) + 1) := by
  refine (val_of hv (c := ocC left) (by rw [chF_o]; exact txt_inc.ne) (rs := [⟨⟨3, false⟩, vI n⟩]) ?_ (one_hold hE hn hv) ?_).1
  · rw [chF_o, txt_inc.D hE]; exact ⟨rfl, trivial⟩
  · rw [chF_o, txt_inc.D hE]
    show Sum.inl (comb 5 (vI n) (vI 1)) = _
    rw [add_small hn]
end
end Go.Proofs.YtiocnfambeochaaGreatDoor

/- Plain mathematics: which cells are begun in the statement Choice. -/
set_option linter.unusedVariables false
set_option linter.unusedSimpArgs false
namespace Go.Proofs.YtiocnfambeochaaGreatDoor

theorem rs_nil {d : Beh} {rs : List Rd} {v : V} (h : Tr d rs) (e : d [] = .inl v) : rs = [] := by
  cases rs with
  | nil => rfl
  | cons r l => rw [h.1] at e; cases e
/-- What was read last time is what the formula reads by these values. -/
theorem KInv.rs {E : Env} {fs : Nat → ByteArray} {k : Kp} (hk : KInv E fs k) {c : Nat} (h0 : fs c ≠ eB) {rs : List Rd} (ht : Tr (E.D (fs c)) rs) {v : V} (hv : E.D (fs c) (ws rs) = .inl v) (hh : Hold (fun c => (k.last c).v) rs) (hc : (k.last c).v ≠ cyc) : (k.last c).rs = rs := by
  obtain ⟨⟨_, g1, g2, _⟩, g4⟩ := hk.good c h0 hc
  rw [hk.f c] at g1 g2
  refine (tr_same _ _ _ _ _ g1 ht g2 hv fun r hr r' hr' e => ?_).1
  rw [(g4 r hr).1, (hh r' hr').1, e]
theorem nT_size {n : Nat} (h : n < 1000) : (nT n).size ≤ 3 := by
  show (Lib.decDigits n).toArray.size ≤ 3
  rw [dec_dg3 h]
  unfold dg3
  split
  · simp
  · split <;> simp
theorem nT_inc {n : Nat} (h : n < 1000) : nT n ≠ tInc := fun e => by
  have := nT_size h
  rw [e] at this
  exact absurd this (by decide)
theorem flag_inc (left : Bool) : tFlag left ≠ tInc := by cases left <;> exact fun e => absurd (congrArg ByteArray.size e) (by decide)
theorem if_inc : tIfT ≠ tInc := fun e => absurd (congrArg ByteArray.size e) (by decide)
theorem ring_inc (left : Bool) : tRing left ≠ tInc := by cases left <;> exact fun e => absurd (congrArg ByteArray.size e) (by decide)
theorem eB_inc : eB ≠ tInc := fun e => absurd (congrArg ByteArray.size e) (by decide)
theorem ch1_inc {left : Bool} {n : Nat} (hn : n < 1000) (c : Nat) : chF left n (tRing left) c ≠ tInc := by
  unfold chF
  split
  · exact if_inc
  · split
    · exact flag_inc left
    · split
      · exact nT_inc hn
      · split
        · exact ring_inc left
        · exact eB_inc
theorem ch2_inc {left : Bool} {n : Nat} (hn : n < 1000) {c : Nat} (h : chF left n tInc c = tInc) : c = ocC left := by
  unfold chF at h
  split at h
  · exact absurd h if_inc
  · split at h
    · exact absurd h (flag_inc left)
    · split at h
      · exact absurd h (nT_inc hn)
      · split at h
        · assumption
        · exact absurd h eB_inc
section
variable {E : Env} {left : Bool} {n : Nat} {k1 k2 : Kp} {o2 w2 : Nat} {bg2 : List Nat}
theorem ch_clean (hE : EnvOK E) (hn : n < 1000) (hk : KInv E (chF left n (tRing left)) k1) : ∀ m, ¬ dn (chF left n tInc) k1.last m 0 ∧ ¬ dn (chF left n tInc) k1.last m (tcC left) ∧ ¬ dn (chF left n tInc) k1.last m 3 := by
  have e0 : (k1.last 0).v = vB left := ch_v0 hE hk.v
  have et : (k1.last (tcC left)).v = vI n := ch_vt hE hn hk.v
  have e3 : (k1.last 3).v = vI n := ch_v3 hE hn hk.v
  have n0 : (k1.last 0).v ≠ cyc := by rw [e0]; unfold cyc vE vB; simp
  have nt : (k1.last (tcC left)).v ≠ cyc := by rw [et]; unfold cyc vE vI; simp
  have n3 : (k1.last 3).v ≠ cyc := by rw [e3]; unfold cyc vE vI; simp
  have r0 : (k1.last 0).rs = [] := hk.rs (c := 0) (v := vB left) (by rw [chF_0]; exact (txt_flag left).ne) trivial (by rw [chF_0, (txt_flag left).D hE]; cases left <;> rfl) (Hold.nil _) n0
  have rt : (k1.last (tcC left)).rs = [] := hk.rs (c := tcC left) (v := vI n) (by rw [chF_t]; exact (txt_num hn).ne) trivial (by
    rw [chF_t]
    show E.D (nT n) [] = _
    rw [show E.D (nT n) = bindA (retA (vI n)) retA from (txt_num hn).D hE]
    rfl) (Hold.nil _) nt
  have h := if_tr left n
  rw [← txt_if.D hE] at h
  have r3 : (k1.last 3).rs = ifRs left n := hk.rs (c := 3) (v := vI n) (by rw [chF_3]; exact txt_if.ne) h.1 h.2 (if_hold hE hn hk.v) n3
  intro m
  induction m with
  | zero =>
    refine ⟨fun hh => hh ⟨?_, n0⟩, fun hh => hh ⟨?_, nt⟩, fun hh => hh ⟨?_, n3⟩⟩
    · rw [hk.f]; rfl
    · rw [hk.f, chF_t, chF_t]
    · rw [hk.f]; rfl
  | succ m ih =>
    obtain ⟨i0, it, i3⟩ := ih
    refine ⟨?_, ?_, ?_⟩
    · rintro (hh | ⟨y, hy, hh⟩)
      · exact i0 hh
      · rw [r0] at hy; cases hy
    · rintro (hh | ⟨y, hy, hh⟩)
      · exact it hh
      · rw [rt] at hy; cases hy
    · rintro (hh | ⟨y, hy, hh⟩)
      · exact i3 hh
      · rw [r3] at hy
        unfold ifRs at hy
        simp only [List.mem_cons, List.not_mem_nil, or_false] at hy
        rcases hy with rfl | rfl
        · exact i0 hh
        · exact it hh
theorem fsT_ch {left : Bool} {n : Nat} (hn : n < 1000) {o : ByteArray} {d : Beh} (ho : TxtOK o d) : FsT (chF left n o) := by
  rw [← chF_start]
  refine FsT.upd (FsT.upd (FsT.upd (FsT.upd fsT0 txt_if (by omega)) (txt_flag left) (by omega)) (txt_num hn) (by unfold tcC; split <;> omega)) ho (by unfold ocC; split <;> omega)
theorem ch_idle (hE : EnvOK E) (hn : n < 1000) (hk : KInv E (chF left n (tRing left)) k1) (ho : o2 < 3) (h : WorkP E k1 (chF left n tInc) o2 w2 k2 bg2) : 3 ∉ bg2 := by
  have e3 : (k1.last 3).v = vI n := ch_v3 hE hn hk.v
  have n3 : (k1.last 3).v ≠ cyc := by rw [e3]; unfold cyc vE vI; simp
  have ht := if_tr left n
  rw [← txt_if.D hE] at ht
  have r3 : (k1.last 3).rs = ifRs left n := hk.rs (c := 3) (v := vI n) (by rw [chF_3]; exact txt_if.ne) ht.1 ht.2 (if_hold hE hn hk.v) n3
  refine h.idle hE hk (fsT_ch hn txt_inc) ho (c := 3) (by rw [hk.f]; rfl) n3 (fun _ => ?_) (fun _ => ?_)
  · rw [r3]
    exact if_hold hE hn (h.inv hE hk (fsT_ch hn txt_inc) ho).v
  · rintro ⟨m, hm⟩
    exact (ch_clean hE hn hk m).2.2 hm
theorem ch_must (hE : EnvOK E) (hn : n < 1000) (hk : KInv E (chF left n (tRing left)) k1) (hs : ∀ a ∈ k1.store.has, ∃ c, a.f = chF left n (tRing left) c) (ho : o2 < 3) (h : WorkP E k1 (chF left n tInc) o2 w2 k2 bg2) : ocC left ∈ bg2 := by
  refine h.must hE hk (fsT_ch hn txt_inc) ho (c := ocC left) ?_ ?_ ?_ ?_
  · rw [chF_o]; exact txt_inc.ne
  · rw [hk.f, chF_o, chF_o]; exact ring_inc left
  · intro a ha
    obtain ⟨c, hc⟩ := hs a ha
    rw [hc, chF_o]; exact ch1_inc hn c
  · intro i hi
    rw [chF_o] at hi
    exact ch2_inc hn hi
end
end Go.Proofs.YtiocnfambeochaaGreatDoor

/- Plain mathematics: what the store keeps; a Work that begins all of some cells, and one that recalls all. -/
set_option linter.unusedVariables false
set_option linter.unusedSimpArgs false
namespace Go.Proofs.YtiocnfambeochaaGreatDoor

/-- These answers, the newest first, are what was added last. -/
structure Rec (s : Sto) (l : List Ans) : Prop where
  p : l.length ≤ s.places
  n : l.length ≤ s.size
  g : ∀ j, j < l.length → s.kept[(s.next + s.places - 1 - j) % s.places]? = l[j]?
theorem rec_nil (s : Sto) : Rec s [] := ⟨Nat.zero_le _, Nat.zero_le _, fun j hj => absurd hj (Nat.not_lt_zero _)⟩
theorem mod_back {x p : Nat} (h1 : p ≤ x) (h2 : x < 2 * p) : x % p = x - p := by
  rw [Nat.mod_eq_sub_mod h1, Nat.mod_eq_of_lt (by omega)]
theorem Rec.add {s : Sto} {l : List Ans} (hs : SW s) (h : Rec s l) (hl : l.length + 1 ≤ s.places) (a : Ans) : Rec (s.add a) (a :: l) := by
  have hp : s.places ≠ 0 := by omega
  have hnx := hs.next hp
  have e : s.add a = ⟨s.places, min (s.size + 1) s.places, (s.next + 1) % s.places, s.kept.set s.next a⟩ := by unfold Sto.add; rw [if_neg hp]
  rw [e]
  have hn := h.n
  refine ⟨hl, by show (l.length + 1) ≤ min (s.size + 1) s.places; omega, fun j hj => ?_⟩
  show (s.kept.set s.next a)[((s.next + 1) % s.places + s.places - 1 - j) % s.places]? = (a :: l)[j]?
  have h64 := hs.len
  have hpl := hs.places
  cases j with
  | zero =>
    have e1 : ((s.next + 1) % s.places + s.places - 1 - 0) % s.places = s.next := by
      by_cases hw : s.next + 1 = s.places
      · rw [hw, Nat.mod_self, Nat.mod_eq_of_lt (by omega)]; omega
      · rw [Nat.mod_eq_of_lt (show s.next + 1 < s.places by omega), mod_back (by omega) (by omega)]; omega
    rw [e1, List.getElem?_set_self (by omega)]
    rfl
  | succ j =>
    have hj' : j < l.length := by have : j + 1 < l.length + 1 := hj; omega
    have e1 : ((s.next + 1) % s.places + s.places - 1 - (j + 1)) % s.places = (s.next + s.places - 1 - j) % s.places := by
      by_cases hw : s.next + 1 = s.places
      · rw [hw, Nat.mod_self, Nat.mod_eq_of_lt (show 0 + s.places - 1 - (j + 1) < s.places by omega), mod_back (by omega) (by omega)]; omega
      · rw [Nat.mod_eq_of_lt (show s.next + 1 < s.places by omega)]
        congr 1
        omega
    have e2 : (s.next + s.places - 1 - j) % s.places ≠ s.next := by
      by_cases hw : j + 1 ≤ s.next
      · rw [mod_back (by omega) (by omega)]; omega
      · rw [Nat.mod_eq_of_lt (by omega)]; omega
    rw [e1, List.getElem?_set_ne (fun h => e2 h.symm), h.g j hj']
    rfl
theorem Rec.mem {s : Sto} {l : List Ans} (hs : SW s) (h : Rec s l) {a : Ans} (ha : a ∈ l) : a ∈ s.has := by
  obtain ⟨j, hj, e⟩ := List.getElem_of_mem ha
  have hn := h.n
  have hp := h.p
  have hg := h.g j hj
  rw [List.getElem?_eq_getElem hj, e] at hg
  have hnx := hs.next (by omega)
  have hsz := hs.size
  have hop := hs.open'
  unfold Sto.has
  have hq : (s.next + s.places - 1 - j) % s.places < s.size := by
    by_cases hw : s.size < s.places
    · have := hop hw
      rw [mod_back (by omega) (by omega)]; omega
    · have := Nat.mod_lt (s.next + s.places - 1 - j) (show 0 < s.places by omega)
      omega
  refine List.mem_of_getElem? (i := (s.next + s.places - 1 - j) % s.places) ?_
  rw [List.getElem?_take_of_lt hq]; exact hg
theorem Rec.fold : ∀ (m l : List Ans) (s : Sto), SW s → Rec s l → l.length + m.length ≤ s.places → SW (m.foldl Sto.add s) ∧ Rec (m.foldl Sto.add s) (m.reverse ++ l) ∧ (m.foldl Sto.add s).places = s.places
  | [], l, s, hs, h, _ => ⟨hs, h, rfl⟩
  | a :: m, l, s, hs, h, hl => by
    have hl' : l.length + 1 + m.length ≤ s.places := by have : l.length + (m.length + 1) ≤ s.places := hl; omega
    have hp : s.places ≠ 0 := by omega
    have e : (s.add a).places = s.places := by unfold Sto.add; rw [if_neg hp]
    obtain ⟨g1, g2, g3⟩ := Rec.fold m (a :: l) (s.add a) (add_sw hs a) (h.add hs (by omega) a) (by rw [e]; show l.length + 1 + m.length ≤ s.places; exact hl')
    refine ⟨g1, ?_, by rw [← e]; exact g3⟩
    rw [List.reverse_cons, List.append_assoc]
    exact g2
theorem add_places (s : Sto) (a : Ans) : (s.add a).places = s.places := by
  unfold Sto.add
  split <;> rfl
theorem fold_places : ∀ (m : List Ans) (s : Sto), (m.foldl Sto.add s).places = s.places
  | [], _ => rfl
  | a :: m, s => by rw [List.foldl_cons, fold_places m, add_places]
theorem nodup_le : ∀ (l m : List Nat), l.Nodup → (∀ x ∈ l, x ∈ m) → l.length ≤ m.length
  | [], _, _, _ => Nat.zero_le _
  | x :: l, m, h, hs => by
    have hx := List.nodup_cons.1 h
    have hm : x ∈ m := hs x List.mem_cons_self
    have := nodup_le l (m.erase x) hx.2 (fun y hy => by
      have hne : y ≠ x := fun e => hx.1 (e ▸ hy)
      exact (List.mem_erase_of_ne hne).2 (hs y (List.mem_cons_of_mem _ hy)))
    rw [List.length_erase_of_mem hm] at this
    have hpos : 0 < m.length := List.length_pos_of_mem hm
    show l.length + 1 ≤ m.length
    omega
section
variable {E : Env} {fl fs : Nat → ByteArray} {k k' : Kp} {order way : Nat} {bg : List Nat}
theorem WorkP.places (hE : EnvOK E) (hk : KInv E fl k) (hf : FsT fs) (ho : order < 3) (h : WorkP E k fs order way k' bg) : k'.store.places = k.store.places := by
  by_cases hw : workedP k fs
  · rcases h with ⟨_, rfl, _⟩ | ⟨hn, _⟩
    · rfl
    · exact absurd hw hn
  · obtain ⟨mk, r', cs, _, hi, _, _, e, _⟩ := (h.done hE hk hf ho hw (fun _ _ => False) (fun val mk _ _ r cs _ c a hh => absurd hh (by simp))).ex
    rw [e, hi.sto, fold_places]
/-- Of these cells nothing is known that holds: they are begun, and what comes of them is kept. -/
theorem WorkP.fresh (hE : EnvOK E) (hk : KInv E fl k) (hf : FsT fs) (ho : order < 3) (h : WorkP E k fs order way k' bg) (hw : ¬ workedP k fs) (hway : way ≠ 0) {C : List Nat} (hC0 : ∀ c ∈ C, fs c ≠ eB) (hC1 : ∀ c ∈ C, ∀ i, fs i = fs c → i = c) (hbg : ∀ c ∈ bg, c ∈ C)
    (hn : ∀ c ∈ C, ∀ a, a.f = fs c → (a = k.last c ∨ a ∈ k.store.has) → ¬ Hold (fun c => (k'.last c).v) a.rs) (hc : ∀ c ∈ C, (k'.last c).v ≠ cyc) :
    ∃ l : List Ans, l.length ≤ C.length ∧ k'.store = l.foldl Sto.add k.store ∧ (∀ c ∈ C, k'.last c ∈ l) ∧ ∀ a ∈ l, ∃ c ∈ C, a = k'.last c := by
  obtain ⟨mk, r', cs, hm, hi, h3, e1, e2, rfl⟩ := (h.done hE hk hf ho hw (fun _ _ => False) (fun val mk _ _ r cs _ c a hh => absurd hh (by simp))).ex
  have ef : r'.fs = fs := hi.con.1
  have el : r'.last = k.last := hi.con.2.1
  have el' : ∀ c, k'.last c = (r'.tk c).an := fun c => by rw [e1]
  have hcs : ∀ c ∈ C, c ∈ cs := fun c hcc => by
    rcases hi.done c (h3 c) (by rw [ef]; exact hC0 c hcc) with ⟨g, _⟩ | ⟨g, _⟩ | ⟨a, a1, a2, a3⟩
    · exact absurd g (hc c hcc)
    · exact absurd g hway
    · rw [ef] at a1
      rcases a3 with ⟨_, b⟩ | b | ⟨c', b1, b2⟩
      · rw [el] at b; exact absurd a2 (hn c hcc a a1 (.inl b))
      · exact absurd a2 (hn c hcc a a1 (.inr b))
      · obtain ⟨b3, b4⟩ := hi.csOK c' b1
        have hf' : (r'.tk c').an.f = r'.fs c' := (hi.sett c' b3).f
        rw [ef, ← b2, a1] at hf'
        rw [← hC1 c hcc c' hf'.symm]; exact b1
  refine ⟨cs.map fun c => (r'.tk c).an, ?_, ?_, ?_, ?_⟩
  · rw [List.length_map]
    exact nodup_le cs C hi.nodup fun c hcc => hbg c (hi.csOK c hcc).2
  · rw [e2, hi.sto]
  · intro c hcc
    rw [el']
    exact List.mem_map.2 ⟨c, hcs c hcc, rfl⟩
  · intro a ha
    obtain ⟨c, hcc, rfl⟩ := List.mem_map.1 ha
    exact ⟨c, hbg c (hi.csOK c hcc).2, (el' c).symm⟩
/-- Of all cells an answer is known that holds: nothing is begun. -/
theorem WorkP.recall (hE : EnvOK E) (hk : KInv E fl k) (hf : FsT fs) (ho : order < 3) (h : WorkP E k fs order 2 k' bg)
    (hall : ∀ c, fs c ≠ eB → ∃ a, a.f = fs c ∧ Hold (fun c => (k'.last c).v) a.rs ∧ ((a = k.last c ∧ (k.last c).v ≠ cyc) ∨ a ∈ k.store.has)) : bg = [] ∧ k'.store = k.store := by
  by_cases hw : workedP k fs
  · rcases h with ⟨_, rfl, rfl⟩ | ⟨hn, _⟩
    · exact ⟨rfl, rfl⟩
    · exact absurd hw hn
  · have hv : ∀ c, Val E.D fs c (k'.last c).v := (h.inv hE hk hf ho).v
    have hnone : ∀ (val : Nat → V) (mk : Nat → Bool), (∀ c, Val E.D fs c (val c)) → ∀ r cs, Inv E val ⟨k.store, fs, k.last, 2⟩ (fun c => (2 : Nat) = 0 ∧ mk c = false) (fun c a => fs c ≠ eB ∧ a.f = fs c ∧ Hold (fun c => (k'.last c).v) a.rs ∧ ((a = k.last c ∧ (k.last c).v ≠ cyc) ∨ a ∈ k.store.has)) r cs → r.bg = [] ∧ r.store = k.store := by
      intro val mk hval r cs hi
      have hb : r.bg = [] := List.eq_nil_iff_forall_not_mem.2 fun c hc => by
        have h0 : r.fs c ≠ eB := (hi.bg c hc).1
        have ef : r.fs = fs := hi.con.1
        rw [ef] at h0
        obtain ⟨a, a1, a2, a3⟩ := hall c h0
        exact (hi.x c a ⟨h0, a1, a2, a3⟩).1 hc
      refine ⟨hb, ?_⟩
      have h1 := hi.sto
      rw [hi.bgE hb] at h1
      exact h1
    obtain ⟨mk, r', cs, hm, hi, h3, e1, e2, rfl⟩ := (h.done hE hk hf ho hw (fun c a => fs c ≠ eB ∧ a.f = fs c ∧ Hold (fun c => (k'.last c).v) a.rs ∧ ((a = k.last c ∧ (k.last c).v ≠ cyc) ∨ a ∈ k.store.has)) (fun val mk hval hmk r cs hi c a ha => by
      obtain ⟨a0, a1, a2, a3⟩ := ha
      have e : val = fun c => (k'.last c).v := funext fun i => Val.same (hval i) (hv i)
      refine ⟨by rw [e]; exact a2, fun _ => ?_⟩
      obtain ⟨hb, hst⟩ := hnone val mk hval r cs hi
      unfold known
      have e1 : r.way = 2 := hi.con.2.2
      have e2 : r.fs = fs := hi.con.1
      have e3 : r.last = k.last := hi.con.2.1
      rw [e1, if_neg (by decide), if_pos rfl]
      rcases a3 with ⟨b1, b2⟩ | b
      · refine List.mem_append_left _ ?_
        have hs : stays r c = true := by
          unfold stays
          rw [e2, e3, ← b1, decide_eq_true a1]
          rw [← b1] at b2
          rw [eqB_ne b2]; rfl
        rw [if_pos hs, e3]
        exact List.mem_singleton.2 b1
      · refine List.mem_append_right _ ?_
        unfold Sto.of
        rw [hst, e2]
        exact List.mem_filter.2 ⟨b, by rw [decide_eq_true a1]⟩)).ex
    obtain ⟨g1, g2⟩ := hnone _ mk (fun c => by have := hi.hv c; rw [hi.con.1] at this; exact this) r' cs hi
    exact ⟨g1, by rw [e2]; exact g2⟩
end
end Go.Proofs.YtiocnfambeochaaGreatDoor
