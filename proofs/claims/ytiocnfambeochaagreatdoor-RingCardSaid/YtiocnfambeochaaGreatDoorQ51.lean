/- Texts put together. -/
import Derived.Test.YtiocnfambeochaaGreatDoorVd
/- Plain mathematics: what comes of the statement Choice. -/
set_option linter.unusedVariables false
set_option linter.unusedSimpArgs false
namespace Go.Proofs.YtiocnfambeochaaGreatDoor

def nT (n : Nat) : ByteArray := ⟨(Lib.decDigits n).toArray⟩
/-- The sheet of the statement: the choice reads a number; the other cell has this formula. -/
def chF (left : Bool) (n : Nat) (o : ByteArray) : Nat → ByteArray := fun c => if c = 3 then tIfT else if c = 0 then tFlag left else if c = tcC left then nT n else if c = ocC left then o else eB
theorem chF_start (left : Bool) (n : Nat) (o : ByteArray) : updF (updF (updF (updF fs0 3 tIfT) 0 (tFlag left)) (tcC left) (nT n)) (ocC left) o = chF left n o := by
  funext c
  unfold updF chF fs0 tcC ocC
  cases left <;> simp only [if_true, Bool.false_eq_true, if_false] <;> (repeat' split) <;> first | rfl | omega
theorem chF_other (left : Bool) (n : Nat) (o o' : ByteArray) : updF (chF left n o) (ocC left) o' = chF left n o' := by
  funext c
  unfold updF chF tcC ocC
  cases left <;> simp only [if_true, Bool.false_eq_true, if_false] <;> (repeat' split) <;> first | rfl | omega
theorem chF_taken (left : Bool) (n m : Nat) (o : ByteArray) : updF (chF left n o) (tcC left) (nT m) = chF left m o := by
  funext c
  unfold updF chF tcC ocC
  cases left <;> simp only [if_true, Bool.false_eq_true, if_false] <;> (repeat' split) <;> first | rfl | omega
theorem chF_3 (left : Bool) (n : Nat) (o : ByteArray) : chF left n o 3 = tIfT := rfl
theorem chF_0 (left : Bool) (n : Nat) (o : ByteArray) : chF left n o 0 = tFlag left := rfl
theorem chF_t (left : Bool) (n : Nat) (o : ByteArray) : chF left n o (tcC left) = nT n := by cases left <;> rfl
theorem chF_o (left : Bool) (n : Nat) (o : ByteArray) : chF left n o (ocC left) = o := by cases left <;> rfl
section
variable {E : Env} {left : Bool} {n : Nat} {o : ByteArray} {val : Nat → V}
theorem ch_v0 (hE : EnvOK E) (hv : ∀ c, Val E.D (chF left n o) c (val c)) : val 0 = vB left := by
  refine (val_of hv (c := 0) (by rw [chF_0]; exact (txt_flag left).ne) (rs := []) trivial (Hold.nil _) ?_).1
  rw [chF_0, (txt_flag left).D hE]
  cases left <;> rfl
theorem ch_vt (hE : EnvOK E) (hn : n < 1000) (hv : ∀ c, Val E.D (chF left n o) c (val c)) : val (tcC left) = vI n := by
  refine (val_of hv (c := tcC left) (by rw [chF_t]; exact (txt_num hn).ne) (rs := []) trivial (Hold.nil _) ?_).1
  rw [chF_t]
  show E.D (nT n) [] = _
  rw [show E.D (nT n) = bindA (retA (vI n)) retA from (txt_num hn).D hE]
  rfl
/-- What the choice reads. -/
def ifRs (left : Bool) (n : Nat) : List Rd := [⟨⟨0, false⟩, vB left⟩, ⟨⟨tcC left, false⟩, vI n⟩]
theorem if_tr (left : Bool) (n : Nat) : Tr (bindA dIf retA) (ifRs left n) ∧ bindA dIf retA (ws (ifRs left n)) = .inl (vI n) := by
  cases left
  · refine ⟨⟨rfl, ?_, trivial⟩, ?_⟩
    · show bindA dIf retA [vB false] = .inr ⟨2, false⟩
      kernel_rfl
    · show bindA dIf retA [vB false, vI n] = .inl (vI n)
      rfl
  · exact ⟨⟨rfl, rfl, trivial⟩, rfl⟩
theorem if_hold (hE : EnvOK E) (hn : n < 1000) (hv : ∀ c, Val E.D (chF left n o) c (val c)) : Hold val (ifRs left n) := by
  intro r hr
  unfold ifRs at hr
  simp only [List.mem_cons, List.not_mem_nil, or_false] at hr
  rcases hr with rfl | rfl
  · rw [ch_v0 hE hv]
    exact ⟨rfl, by unfold cyc vE vB; simp⟩
  · rw [ch_vt hE hn hv]
    exact ⟨rfl, by unfold cyc vE vI; simp⟩
theorem ch_v3 (hE : EnvOK E) (hn : n < 1000) (hv : ∀ c, Val E.D (chF left n o) c (val c)) : val 3 = vI n := by
  have h := if_tr left n
  rw [← txt_if.D hE] at h
  exact (val_of hv (c := 3) (by rw [chF_3]; exact txt_if.ne) (rs := ifRs left n) h.1 (if_hold hE hn hv) h.2).1
theorem one_hold (hE : EnvOK E) (hn : n < 1000) (hv : ∀ c, Val E.D (chF left n o) c (val c)) : Hold val [⟨⟨3, false⟩, vI n⟩] := by
  intro r hr
  rw [List.mem_singleton] at hr
  subst hr
  rw [ch_v3 hE hn hv]
  exact ⟨rfl, by unfold cyc vE vI; simp⟩
theorem ch_ring (hE : EnvOK E) (hn : n < 1000) (hv : ∀ c, Val E.D (chF left n (tRing left)) c (val c)) : val (ocC left) = cyc := by
  refine self_hangs (needs_of hv (c := ocC left) (by rw [chF_o]; exact (txt_ring left).ne) (rs := [⟨⟨3, false⟩, vI n⟩]) ?_ (one_hold hE hn hv) (nd := ⟨ocC left, false⟩) ?_) (hv _)
  · rw [chF_o, (txt_ring left).D hE]; exact ⟨rfl, trivial⟩
  · rw [chF_o, (txt_ring left).D hE]; rfl
theorem add_small {n : Nat} (hn : n < 1000) : comb 5 (vI n) (vI 1) = vI ((n : Int) + 1) := by
  have h1 : comb 5 (vI n) (vI 1) = vAdd (vI n) (vI 1) := by unfold comb; rw [if_pos rfl]
  have h2 : vAdd (vI n) (vI 1) = vNum ((n : Int) + 1) := by unfold vAdd; rw [if_pos (by unfold vI; exact ⟨rfl, rfl⟩)]; unfold vI; rfl
  have h3 : inR ((n : Int) + 1) = true := by unfold inR; exact decide_eq_true (by omega)
  rw [h1, h2]
  unfold vNum
  rw [if_pos h3]
theorem ch_inc (hE : EnvOK E) (hn : n < 1000) (hv : ∀ c, Val E.D (chF left n tInc) c (val c)) : val (ocC left) = vI ((n : Int) + 1) := by
  refine (val_of hv (c := ocC left) (by rw [chF_o]; exact txt_inc.ne) (rs := [⟨⟨3, false⟩, vI n⟩]) ?_ (one_hold hE hn hv) ?_).1
  · rw [chF_o, txt_inc.D hE]; exact ⟨rfl, trivial⟩
  · rw [chF_o, txt_inc.D hE]
    show Sum.inl (comb 5 (vI n) (vI 1)) = _
    rw [add_small hn]
end
end Go.Proofs.YtiocnfambeochaaGreatDoor

/- Plain mathematics: which cells are begun in the statement Choice. -/
set_option linter.unusedVariables false
set_option linter.unusedSimpArgs false
namespace Go.Proofs.YtiocnfambeochaaGreatDoor

theorem rs_nil {d : Beh} {rs : List Rd} {v : V} (h : Tr d rs) (e : d [] = .inl v) : rs = [] := by
  cases rs with
  | nil => rfl
  | cons r l => rw [h.1] at e; cases e
/-- What was read last time is what the formula reads by these values. -/
theorem KInv.rs {E : Env} {fs : Nat → ByteArray} {k : Kp} (hk : KInv E fs k) {c : Nat} (h0 : fs c ≠ eB) {rs : List Rd} (ht : Tr (E.D (fs c)) rs) {v : V} (hv : E.D (fs c) (ws rs) = .inl v) (hh : Hold (fun c => (k.last c).v) rs) (hc : (k.last c).v ≠ cyc) : (k.last c).rs = rs := by
  obtain ⟨⟨_, g1, g2, _⟩, g4⟩ := hk.good c h0 hc
  rw [hk.f c] at g1 g2
  refine (tr_same _ _ _ _ _ g1 ht g2 hv fun r hr r' hr' e => ?_).1
  rw [(g4 r hr).1, (hh r' hr').1, e]
theorem nT_size {n : Nat} (h : n < 1000) : (nT n).size ≤ 3 := by
  show (Lib.decDigits n).toArray.size ≤ 3
  rw [dec_dg3 h]
  unfold dg3
  split
  · simp
  · split <;> simp
theorem nT_inc {n : Nat} (h : n < 1000) : nT n ≠ tInc := fun e => by
  have := nT_size h
  rw [e] at this
  exact absurd this (by decide)
theorem flag_inc (left : Bool) : tFlag left ≠ tInc := by cases left <;> exact fun e => absurd (congrArg ByteArray.size e) (by decide)
theorem if_inc : tIfT ≠ tInc := fun e => absurd (congrArg ByteArray.size e) (by decide)
theorem ring_inc (left : Bool) : tRing left ≠ tInc := by cases left <;> exact fun e => absurd (congrArg ByteArray.size e) (by decide)
theorem eB_inc : eB ≠ tInc := fun e => absurd (congrArg ByteArray.size e) (by decide)
theorem ch1_inc {left : Bool} {n : Nat} (hn : n < 1000) (c : Nat) : chF left n (tRing left) c ≠ tInc := by
  unfold chF
  split
  · exact if_inc
  · split
    · exact flag_inc left
    · split
      · exact nT_inc hn
      · split
        · exact ring_inc left
        · exact eB_inc
theorem ch2_inc {left : Bool} {n : Nat} (hn : n < 1000) {c : Nat} (h : chF left n tInc c = tInc) : c = ocC left := by
  unfold chF at h
  split at h
  · exact absurd h if_inc
  · split at h
    · exact absurd h (flag_inc left)
    · split at h
      · exact absurd h (nT_inc hn)
      · split at h
        · assumption
        · exact absurd h eB_inc
section
variable {E : Env} {left : Bool} {n : Nat} {k1 k2 : Kp} {o2 w2 : Nat} {bg2 : List Nat}
theorem ch_clean (hE : EnvOK E) (hn : n < 1000) (hk : KInv E (chF left n (tRing left)) k1) : ∀ m, ¬ dn (chF left n tInc) k1.last m 0 ∧ ¬ dn (chF left n tInc) k1.last m (tcC left) ∧ ¬ dn (chF left n tInc) k1.last m 3 := by
  have e0 : (k1.last 0).v = vB left := ch_v0 hE hk.v
  have et : (k1.last (tcC left)).v = vI n := ch_vt hE hn hk.v
  have e3 : (k1.last 3).v = vI n := ch_v3 hE hn hk.v
  have n0 : (k1.last 0).v ≠ cyc := by rw [e0]; unfold cyc vE vB; simp
  have nt : (k1.last (tcC left)).v ≠ cyc := by rw [et]; unfold cyc vE vI; simp
  have n3 : (k1.last 3).v ≠ cyc := by rw [e3]; unfold cyc vE vI; simp
  have r0 : (k1.last 0).rs = [] := hk.rs (c := 0) (v := vB left) (by rw [chF_0]; exact (txt_flag left).ne) trivial (by rw [chF_0, (txt_flag left).D hE]; cases left <;> rfl) (Hold.nil _) n0
  have rt : (k1.last (tcC left)).rs = [] := hk.rs (c := tcC left) (v := vI n) (by rw [chF_t]; exact (txt_num hn).ne) trivial (by
    rw [chF_t]
    show E.D (nT n) [] = _
    rw [show E.D (nT n) = bindA (retA (vI n)) retA from (txt_num hn).D hE]
    rfl) (Hold.nil _) nt
  have h := if_tr left n
  rw [← txt_if.D hE] at h
  have r3 : (k1.last 3).rs = ifRs left n := hk.rs (c := 3) (v := vI n) (by rw [chF_3]; exact txt_if.ne) h.1 h.2 (if_hold hE hn hk.v) n3
  intro m
  induction m with
  | zero =>
    refine ⟨fun hh => hh ⟨?_, n0⟩, fun hh => hh ⟨?_, nt⟩, fun hh => hh ⟨?_, n3⟩⟩
    · rw [hk.f]; rfl
    · rw [hk.f, chF_t, chF_t]
    · rw [hk.f]; rfl
  | succ m ih =>
    obtain ⟨i0, it, i3⟩ := ih
    refine ⟨?_, ?_, ?_⟩
    · rintro (hh | ⟨y, hy, hh⟩)
      · exact i0 hh
      · rw [r0] at hy; cases hy
    · rintro (hh | ⟨y, hy, hh⟩)
      · exact it hh
      · rw [rt] at hy; cases hy
    · rintro (hh | ⟨y, hy, hh⟩)
      · exact i3 hh
      · rw [r3] at hy
        unfold ifRs at hy
        simp only [List.mem_cons, List.not_mem_nil, or_false] at hy
        rcases hy with rfl | rfl
        · exact i0 hh
        · exact it hh
theorem fsT_ch {left : Bool} {n : Nat} (hn : n < 1000) {o : ByteArray} {d : Beh} (ho : TxtOK o d) : FsT (chF left n o) := by
  rw [← chF_start]
  refine FsT.upd (FsT.upd (FsT.upd (FsT.upd fsT0 txt_if (by omega)) (txt_flag left) (by omega)) (txt_num hn) (by unfold tcC; split <;> omega)) ho (by unfold ocC; split <;> omega)
theorem ch_idle (hE : EnvOK E) (hn : n < 1000) (hk : KInv E (chF left n (tRing left)) k1) (ho : o2 < 3) (h : WorkP E k1 (chF left n tInc) o2 w2 k2 bg2) : 3 ∉ bg2 := by
  have e3 : (k1.last 3).v = vI n := ch_v3 hE hn hk.v
  have n3 : (k1.last 3).v ≠ cyc := by rw [e3]; unfold cyc vE vI; simp
  have ht := if_tr left n
  rw [← txt_if.D hE] at ht
  have r3 : (k1.last 3).rs = ifRs left n := hk.rs (c := 3) (v := vI n) (by rw [chF_3]; exact txt_if.ne) ht.1 ht.2 (if_hold hE hn hk.v) n3
  refine h.idle hE hk (fsT_ch hn txt_inc) ho (c := 3) (by rw [hk.f]; rfl) n3 (fun _ => ?_) (fun _ => ?_)
  · rw [r3]
    exact if_hold hE hn (h.inv hE hk (fsT_ch hn txt_inc) ho).v
  · rintro ⟨m, hm⟩
    exact (ch_clean hE hn hk m).2.2 hm
theorem ch_must (hE : EnvOK E) (hn : n < 1000) (hk : KInv E (chF left n (tRing left)) k1) (hs : ∀ a ∈ k1.store.has, ∃ c, a.f = chF left n (tRing left) c) (ho : o2 < 3) (h : WorkP E k1 (chF left n tInc) o2 w2 k2 bg2) : ocC left ∈ bg2 := by
  refine h.must hE hk (fsT_ch hn txt_inc) ho (c := ocC left) ?_ ?_ ?_ ?_
  · rw [chF_o]; exact txt_inc.ne
  · rw [hk.f, chF_o, chF_o]; exact ring_inc left
  · intro a ha
    obtain ⟨c, hc⟩ := hs a ha
    rw [hc, chF_o]; exact ch1_inc hn c
  · intro i hi
    rw [chF_o] at hi
    exact ch2_inc hn hi
end
end Go.Proofs.YtiocnfambeochaaGreatDoor

/- Plain mathematics: what comes of the statement Ring. -/
set_option linter.unusedVariables false
set_option linter.unusedSimpArgs false
namespace Go.Proofs.YtiocnfambeochaaGreatDoor

def tNx (j : Nat) : ByteArray := ⟨#[65, UInt8.ofNat (49 + j), 32, 43, 32, 49]⟩
def tBd (j : Nat) : ByteArray := ⟨#[98, 97, 100, 40, 65, UInt8.ofNat (49 + j), 41]⟩
theorem seven {j : Nat} (h : j < 7) : j = 0 ∨ j = 1 ∨ j = 2 ∨ j = 3 ∨ j = 4 ∨ j = 5 ∨ j = 6 := by omega
theorem txt_nx {j : Nat} (h : j < 7) : TxtOK (tNx j) (binA 5 (rdc (6 * j)) (retA (vI 1))) := by
  rcases seven h with rfl | rfl | rfl | rfl | rfl | rfl | rfl
  · exact txt_of (l := [65, 49, 32, 43, 32, 49]) (g := [tCell 0] ++ tOp 0 :: [tNum [49]]) (by kernel_rfl) (by kernel_rfl) (by kernel_rfl) (by kernel_rfl) (by kernel_rfl) (cg_plus (o := tOp 0) (by decide) (cg_cell (by omega)) (cg_n [49] 1 rfl (by omega)))
  · exact txt_of (l := [65, 50, 32, 43, 32, 49]) (g := [tCell 6] ++ tOp 0 :: [tNum [49]]) (by kernel_rfl) (by kernel_rfl) (by kernel_rfl) (by kernel_rfl) (by kernel_rfl) (cg_plus (o := tOp 0) (by decide) (cg_cell (by omega)) (cg_n [49] 1 rfl (by omega)))
  · exact txt_of (l := [65, 51, 32, 43, 32, 49]) (g := [tCell 12] ++ tOp 0 :: [tNum [49]]) (by kernel_rfl) (by kernel_rfl) (by kernel_rfl) (by kernel_rfl) (by kernel_rfl) (cg_plus (o := tOp 0) (by decide) (cg_cell (by omega)) (cg_n [49] 1 rfl (by omega)))
  · exact txt_of (l := [65, 52, 32, 43, 32, 49]) (g := [tCell 18] ++ tOp 0 :: [tNum [49]]) (by kernel_rfl) (by kernel_rfl) (by kernel_rfl) (by kernel_rfl) (by kernel_rfl) (cg_plus (o := tOp 0) (by decide) (cg_cell (by omega)) (cg_n [49] 1 rfl (by omega)))
  · exact txt_of (l := [65, 53, 32, 43, 32, 49]) (g := [tCell 24] ++ tOp 0 :: [tNum [49]]) (by kernel_rfl) (by kernel_rfl) (by kernel_rfl) (by kernel_rfl) (by kernel_rfl) (cg_plus (o := tOp 0) (by decide) (cg_cell (by omega)) (cg_n [49] 1 rfl (by omega)))
  · exact txt_of (l := [65, 54, 32, 43, 32, 49]) (g := [tCell 30] ++ tOp 0 :: [tNum [49]]) (by kernel_rfl) (by kernel_rfl) (by kernel_rfl) (by kernel_rfl) (by kernel_rfl) (cg_plus (o := tOp 0) (by decide) (cg_cell (by omega)) (cg_n [49] 1 rfl (by omega)))
  · exact txt_of (l := [65, 55, 32, 43, 32, 49]) (g := [tCell 36] ++ tOp 0 :: [tNum [49]]) (by kernel_rfl) (by kernel_rfl) (by kernel_rfl) (by kernel_rfl) (by kernel_rfl) (cg_plus (o := tOp 0) (by decide) (cg_cell (by omega)) (cg_n [49] 1 rfl (by omega)))
theorem txt_bd {j : Nat} (h : j < 7) : TxtOK (tBd j) (badA' (rdc (6 * j))) := by
  rcases seven h with rfl | rfl | rfl | rfl | rfl | rfl | rfl
  · exact txt_of (l := [98, 97, 100, 40, 65, 49, 41]) (g := tBad :: tOpen :: ([tCell 0] ++ [tClose])) (by kernel_rfl) (by kernel_rfl) (by kernel_rfl) (by kernel_rfl) (by kernel_rfl) (cg_form (cg_bad (cg_form (cg_cell (by omega)))))
  · exact txt_of (l := [98, 97, 100, 40, 65, 50, 41]) (g := tBad :: tOpen :: ([tCell 6] ++ [tClose])) (by kernel_rfl) (by kernel_rfl) (by kernel_rfl) (by kernel_rfl) (by kernel_rfl) (cg_form (cg_bad (cg_form (cg_cell (by omega)))))
  · exact txt_of (l := [98, 97, 100, 40, 65, 51, 41]) (g := tBad :: tOpen :: ([tCell 12] ++ [tClose])) (by kernel_rfl) (by kernel_rfl) (by kernel_rfl) (by kernel_rfl) (by kernel_rfl) (cg_form (cg_bad (cg_form (cg_cell (by omega)))))
  · exact txt_of (l := [98, 97, 100, 40, 65, 52, 41]) (g := tBad :: tOpen :: ([tCell 18] ++ [tClose])) (by kernel_rfl) (by kernel_rfl) (by kernel_rfl) (by kernel_rfl) (by kernel_rfl) (cg_form (cg_bad (cg_form (cg_cell (by omega)))))
  · exact txt_of (l := [98, 97, 100, 40, 65, 53, 41]) (g := tBad :: tOpen :: ([tCell 24] ++ [tClose])) (by kernel_rfl) (by kernel_rfl) (by kernel_rfl) (by kernel_rfl) (by kernel_rfl) (cg_form (cg_bad (cg_form (cg_cell (by omega)))))
  · exact txt_of (l := [98, 97, 100, 40, 65, 54, 41]) (g := tBad :: tOpen :: ([tCell 30] ++ [tClose])) (by kernel_rfl) (by kernel_rfl) (by kernel_rfl) (by kernel_rfl) (by kernel_rfl) (cg_form (cg_bad (cg_form (cg_cell (by omega)))))
  · exact txt_of (l := [98, 97, 100, 40, 65, 55, 41]) (g := tBad :: tOpen :: ([tCell 36] ++ [tClose])) (by kernel_rfl) (by kernel_rfl) (by kernel_rfl) (by kernel_rfl) (by kernel_rfl) (cg_form (cg_bad (cg_form (cg_cell (by omega)))))
def tF2 : ByteArray := ⟨#[105, 102, 40, 102, 97, 108, 115, 101, 44, 32, 70, 49, 44, 32, 55, 41]⟩
def dF2 : Beh := ifA (retA (vB false)) (rdc 5) (retA (vI 7))
theorem txt_f2 : TxtOK tF2 dF2 :=
  txt_of (l := [105, 102, 40, 102, 97, 108, 115, 101, 44, 32, 70, 49, 44, 32, 55, 41]) (g := tIf :: tOpen :: (([tFalse] ++ tComma :: ([tCell 5] ++ tComma :: [tNum [55]])) ++ [tClose])) (by kernel_rfl) (by kernel_rfl) (by kernel_rfl) (by kernel_rfl) (by kernel_rfl) (cg_form (cg_if (cg_form cg_false) (cg_form (cg_cell (by omega))) (cg_form (cg_n [55] 7 rfl (by omega)))))
def tF3 : ByteArray := ⟨#[70, 50, 32, 43, 32, 49]⟩
theorem txt_f3 : TxtOK tF3 (binA 5 (rdc 11) (retA (vI 1))) :=
  txt_of (l := [70, 50, 32, 43, 32, 49]) (g := [tCell 11] ++ tOp 0 :: [tNum [49]]) (by kernel_rfl) (by kernel_rfl) (by kernel_rfl) (by kernel_rfl) (by kernel_rfl) (cg_plus (o := tOp 0) (by decide) (cg_cell (by omega)) (cg_n [49] 1 rfl (by omega)))
def tF4 : ByteArray := ⟨#[105, 102, 40, 70, 50, 32, 61, 32, 55, 44, 32, 115, 117, 109, 40, 70, 49, 58, 70, 51, 41, 44, 32, 48, 41]⟩
def dF4 : Beh := ifA (binA 10 (rdc 11) (retA (vI 7))) (sumA (rangeL 5 17) (vI 0)) (retA (vI 0))
theorem txt_f4 : TxtOK tF4 dF4 :=
  txt_of (l := [105, 102, 40, 70, 50, 32, 61, 32, 55, 44, 32, 115, 117, 109, 40, 70, 49, 58, 70, 51, 41, 44, 32, 48, 41]) (g := tIf :: tOpen :: ((([tCell 11] ++ tCmp 1 :: [tNum [55]]) ++ tComma :: ([tSum, tOpen, tCell 5, tColon, tCell 17, tClose] ++ tComma :: [tNum [48]])) ++ [tClose])) (by kernel_rfl) (by kernel_rfl) (by kernel_rfl) (by kernel_rfl) (by kernel_rfl)
    (cg_form (cg_if (cg_less (o := tCmp 1) (by decide) (cg_cell (by omega)) (cg_n [55] 7 rfl (by omega))) (cg_form (cg_rsum (by omega) (by omega))) (cg_form (cg_n [48] 0 rfl (by omega)))))
/-- The ring of n cells, broken at a place or not. -/
def rgF (n at' : Nat) (br : Bool) : Nat → ByteArray := fun c =>
  if c = 5 then tBd at' else if c = 11 then tF2 else if c = 17 then tF3 else if c = 23 then tF4
  else if c % 6 = 0 ∧ c / 6 < n then (if br = true ∧ c = 6 * at' then nT 10 else tNx ((c / 6 + 1) % n)) else eB
section
variable {n at' : Nat} {br : Bool}
theorem rg_5 : rgF n at' br 5 = tBd at' := rfl
theorem rg_11 : rgF n at' br 11 = tF2 := rfl
theorem rg_17 : rgF n at' br 17 = tF3 := rfl
theorem rg_23 : rgF n at' br 23 = tF4 := rfl
theorem rg_a {i : Nat} (hi : i < n) (h : br = false ∨ i ≠ at') : rgF n at' br (6 * i) = tNx ((i + 1) % n) := by
  unfold rgF
  rw [if_neg (by omega), if_neg (by omega), if_neg (by omega), if_neg (by omega), if_pos ⟨by omega, by omega⟩, if_neg, show 6 * i / 6 = i by omega]
  rintro ⟨h1, h2⟩
  rcases h with h | h
  · rw [h] at h1; cases h1
  · omega
theorem rg_at (hi : at' < n) : rgF n at' true (6 * at') = nT 10 := by
  unfold rgF
  rw [if_neg (by omega), if_neg (by omega), if_neg (by omega), if_neg (by omega), if_pos ⟨by omega, by omega⟩, if_pos ⟨rfl, rfl⟩]
variable {E : Env} {val : Nat → V}
theorem rg_v11 (hE : EnvOK E) (hv : ∀ c, Val E.D (rgF n at' br) c (val c)) : val 11 = vI 7 := by
  refine (val_of hv (c := 11) (by rw [rg_11]; exact txt_f2.ne) (rs := []) trivial (Hold.nil _) ?_).1
  rw [rg_11, txt_f2.D hE]; rfl
theorem rg_v17 (hE : EnvOK E) (hv : ∀ c, Val E.D (rgF n at' br) c (val c)) : val 17 = vI 8 := by
  refine (val_of hv (c := 17) (by rw [rg_17]; exact txt_f3.ne) (rs := [⟨⟨11, false⟩, vI 7⟩]) ?_ ?_ ?_).1
  · rw [rg_17, txt_f3.D hE]; exact ⟨rfl, trivial⟩
  · intro r hr
    rw [List.mem_singleton] at hr
    subst hr
    rw [rg_v11 hE hv]
    exact ⟨rfl, by unfold cyc vE vI; simp⟩
  · rw [rg_17, txt_f3.D hE]; kernel_rfl
theorem rg_ring (hE : EnvOK E) (hn : 0 < n) (hn7 : n ≤ 7) (hv : ∀ c, Val E.D (rgF n at' false) c (val c)) {i : Nat} (hi : i < n) : val (6 * i) = cyc := by
  have needs : ∀ i, i < n → Needs E.D (rgF n at' false) (6 * i) (6 * ((i + 1) % n)) := fun i hi => by
    have hm : (i + 1) % n < n := Nat.mod_lt _ hn
    have ht := txt_nx (j := (i + 1) % n) (by omega)
    refine needs_of hv (by rw [rg_a hi (.inl rfl)]; exact ht.ne) (rs := []) trivial (Hold.nil _) (nd := ⟨6 * ((i + 1) % n), false⟩) ?_
    rw [rg_a hi (.inl rfl), ht.D hE]; rfl
  have key : ∀ m i u, i < n → ¬ ev E.D (rgF n at' false) m (6 * i) u := by
    intro m
    induction m with
    | zero => intro i u _ hu; exact hu
    | succ m ih =>
      intro i u hi hu
      obtain ⟨u', h'⟩ := needs i hi m u hu
      exact ih _ u' (Nat.mod_lt _ hn) h'
  rcases hv (6 * i) with ⟨m, hm⟩ | ⟨_, e⟩
  · exact absurd hm (key m i _ hi)
  · exact e
theorem rg_dist (hE : EnvOK E) (hn7 : n ≤ 7) (ha : at' < n) (hv : ∀ c, Val E.D (rgF n at' true) c (val c)) : ∀ (d i : Nat), i < n → (at' + n - i) % n = d → val (6 * i) = vI (10 + d : Nat)
  | 0, i, hi, hd => by
    have e : i = at' := by
      rcases Nat.lt_or_ge at' i with h | h
      · rw [Nat.mod_eq_of_lt (by omega)] at hd; omega
      · rw [show at' + n - i = (at' - i) + n by omega, Nat.add_mod_right, Nat.mod_eq_of_lt (by omega)] at hd; omega
    rw [e]
    refine (val_of hv (c := 6 * at') (by rw [rg_at ha]; exact (txt_num (n := 10) (by omega)).ne) (rs := []) trivial (Hold.nil _) ?_).1
    rw [rg_at ha]
    show E.D (nT 10) [] = _
    rw [show E.D (nT 10) = bindA (retA (vI (10 : Nat))) retA from (txt_num (n := 10) (by omega)).D hE]
    rfl
  | d + 1, i, hi, hd => by
    have hm : (i + 1) % n < n := Nat.mod_lt _ (by omega)
    have hne : i ≠ at' := fun e => by rw [e, show at' + n - at' = n by omega, Nat.mod_self] at hd; cases hd
    have hd' : (at' + n - (i + 1) % n) % n = d := by
      by_cases hw : i + 1 = n
      · rw [hw, Nat.mod_self, Nat.sub_zero, Nat.add_mod_right, Nat.mod_eq_of_lt ha]
        rw [show at' + n - i = at' + 1 by omega] at hd
        rw [Nat.mod_eq_of_lt (by omega)] at hd; omega
      · rw [Nat.mod_eq_of_lt (show i + 1 < n by omega)]
        rcases Nat.lt_or_ge at' i with h | h
        · rw [Nat.mod_eq_of_lt (by omega)] at hd ⊢; omega
        · rw [show at' + n - i = (at' - i) + n by omega, Nat.add_mod_right, Nat.mod_eq_of_lt (by omega)] at hd
          rw [show at' + n - (i + 1) = (at' - (i + 1)) + n by omega, Nat.add_mod_right, Nat.mod_eq_of_lt (by omega)]; omega
    have ih := rg_dist hE hn7 ha hv d ((i + 1) % n) hm hd'
    have hdn : d < n := by rw [← hd']; exact Nat.mod_lt _ (by omega)
    have ht := txt_nx (j := (i + 1) % n) (by omega)
    refine (val_of hv (c := 6 * i) (by rw [rg_a hi (.inr hne)]; exact ht.ne) (rs := [⟨⟨6 * ((i + 1) % n), false⟩, vI (10 + d : Nat)⟩]) ?_ ?_ ?_).1
    · rw [rg_a hi (.inr hne), ht.D hE]; exact ⟨rfl, trivial⟩
    · intro r hr
      rw [List.mem_singleton] at hr
      subst hr
      rw [ih]
      exact ⟨rfl, by unfold cyc vE vI; simp⟩
    · rw [rg_a hi (.inr hne), ht.D hE]
      show Sum.inl (comb 5 (vI (10 + d : Nat)) (vI 1)) = _
      rw [add_small (by omega), show ((10 + d : Nat) : Int) + 1 = ((10 + (d + 1) : Nat) : Int) by omega]
theorem fsT_rg (hn : 0 < n) (hn7 : n ≤ 7) (ha : at' < n) : FsT (rgF n at' br) := by
  refine ⟨fun c hc => ?_, fun c hc => ?_⟩
  · unfold rgF at hc ⊢
    split
    · exact ⟨_, txt_bd (by omega)⟩
    · split
      · exact ⟨_, txt_f2⟩
      · split
        · exact ⟨_, txt_f3⟩
        · split
          · exact ⟨_, txt_f4⟩
          · split
            · split
              · exact ⟨_, txt_num (n := 10) (by omega)⟩
              · have hm : (c / 6 + 1) % n < n := Nat.mod_lt _ hn
                exact ⟨_, txt_nx (by omega)⟩
            · rename_i h1 h2 h3 h4 h5
              rw [if_neg h1, if_neg h2, if_neg h3, if_neg h4, if_neg h5] at hc
              exact absurd rfl hc
  · unfold rgF
    rw [if_neg (by omega), if_neg (by omega), if_neg (by omega), if_neg (by omega), if_neg (by omega)]
theorem FsT.fit {E : Env} (hE : EnvOK E) {fs : Nat → ByteArray} (h : FsT fs) : Fit E.D fs := fun c hc => ⟨_, (h.ok hE).1.fit c hc⟩
theorem rg_v5 (hE : EnvOK E) (hn : 0 < n) (hn7 : n ≤ 7) (ha : at' < n) (hv : ∀ c, Val E.D (rgF n at' false) c (val c)) : val 5 = cyc := by
  refine cyc_of ((fsT_rg (br := false) hn hn7 ha).fit hE) hv (needs_of hv (c := 5) (by rw [rg_5]; exact (txt_bd (j := at') (by omega)).ne) (rs := []) trivial (Hold.nil _) (nd := ⟨6 * at', false⟩) ?_) (rg_ring hE hn hn7 hv ha)
  rw [rg_5, (txt_bd (j := at') (by omega)).D hE]; rfl
theorem hold_11 (hE : EnvOK E) (hv : ∀ c, Val E.D (rgF n at' br) c (val c)) : Hold val [⟨⟨11, false⟩, vI 7⟩] := by
  intro r hr
  rw [List.mem_singleton] at hr
  subst hr
  rw [rg_v11 hE hv]
  exact ⟨rfl, by unfold cyc vE vI; simp⟩
theorem rg_v23 (hE : EnvOK E) (hn : 0 < n) (hn7 : n ≤ 7) (ha : at' < n) (hv : ∀ c, Val E.D (rgF n at' false) c (val c)) : val 23 = cyc := by
  refine cyc_of ((fsT_rg (br := false) hn hn7 ha).fit hE) hv (needs_of hv (c := 23) (by rw [rg_23]; exact txt_f4.ne) (rs := [⟨⟨11, false⟩, vI 7⟩]) ?_ (hold_11 hE hv) (nd := ⟨5, false⟩) ?_) (rg_v5 hE hn hn7 ha hv)
  · rw [rg_23, txt_f4.D hE]; exact ⟨rfl, trivial⟩
  · rw [rg_23, txt_f4.D hE]; kernel_rfl
theorem rg_b5 (hE : EnvOK E) (hn7 : n ≤ 7) (ha : at' < n) (hv : ∀ c, Val E.D (rgF n at' true) c (val c)) : val 5 = vB false := by
  have h0 := rg_dist hE hn7 ha hv 0 at' ha (by rw [show at' + n - at' = n by omega, Nat.mod_self])
  have ht := txt_bd (j := at') (by omega)
  refine (val_of hv (c := 5) (by rw [rg_5]; exact ht.ne) (rs := [⟨⟨6 * at', false⟩, vI (10 + 0 : Nat)⟩]) ?_ ?_ ?_).1
  · rw [rg_5, ht.D hE]; exact ⟨rfl, trivial⟩
  · intro r hr
    rw [List.mem_singleton] at hr
    subst hr
    rw [h0]
    exact ⟨rfl, by unfold cyc vE vI; simp⟩
  · rw [rg_5, ht.D hE]; rfl
theorem rg_b23 (hE : EnvOK E) (hn7 : n ≤ 7) (ha : at' < n) (hv : ∀ c, Val E.D (rgF n at' true) c (val c)) : val 23 = vE 4 := by
  refine (val_of hv (c := 23) (by rw [rg_23]; exact txt_f4.ne) (rs := [⟨⟨11, false⟩, vI 7⟩, ⟨⟨5, false⟩, vB false⟩]) ?_ ?_ ?_).1
  · rw [rg_23, txt_f4.D hE]
    refine ⟨rfl, ?_, trivial⟩
    show bindA dF4 retA [vI 7] = .inr ⟨5, false⟩
    kernel_rfl
  · intro r hr
    simp only [List.mem_cons, List.not_mem_nil, or_false] at hr
    rcases hr with rfl | rfl
    · rw [rg_v11 hE hv]; exact ⟨rfl, by unfold cyc vE vI; simp⟩
    · rw [rg_b5 hE hn7 ha hv]; exact ⟨rfl, by unfold cyc vE vB; simp⟩
  · rw [rg_23, txt_f4.D hE]; kernel_rfl
/-- While the ring is laid. -/
def rgP (n at' m : Nat) : Nat → ByteArray := fun c =>
  if c = 5 then tBd at' else if c = 11 then tF2 else if c = 17 then tF3 else if c = 23 then tF4
  else if c % 6 = 0 ∧ c / 6 < m then tNx ((c / 6 + 1) % n) else eB
theorem rgP_start : updF (updF (updF (updF fs0 5 (tBd at')) 11 tF2) 17 tF3) 23 tF4 = rgP n at' 0 := by
  funext c
  unfold updF rgP fs0
  (repeat' split) <;> first | rfl | omega
theorem rgP_next {m : Nat} : updF (rgP n at' m) (6 * m) (tNx ((m + 1) % n)) = rgP n at' (m + 1) := by
  funext c
  unfold updF rgP
  by_cases h : c = 6 * m
  · subst h
    rw [if_pos rfl, if_neg (by omega), if_neg (by omega), if_neg (by omega), if_neg (by omega), if_pos ⟨by omega, by omega⟩, show 6 * m / 6 = m by omega]
  · rw [if_neg h]
    have e : (c % 6 = 0 ∧ c / 6 < m + 1) = (c % 6 = 0 ∧ c / 6 < m) := propext ⟨fun hh => ⟨hh.1, by omega⟩, fun hh => ⟨hh.1, by omega⟩⟩
    simp only [e]
theorem rgP_end : rgP n at' n = rgF n at' false := by
  funext c
  unfold rgP rgF
  simp only [Bool.false_eq_true, false_and, if_false]
theorem rg_break (ha : at' < n) : updF (rgF n at' false) (6 * at') (nT 10) = rgF n at' true := by
  funext c
  unfold updF
  by_cases h : c = 6 * at'
  · rw [if_pos h, h, rg_at ha]
  · rw [if_neg h]
    unfold rgF
    simp only [Bool.false_eq_true, false_and, if_false, true_and]
    rw [if_neg h]
theorem rg_close (ha : at' < n) : updF (rgF n at' true) (6 * at') (tNx ((at' + 1) % n)) = rgF n at' false := by
  funext c
  unfold updF
  by_cases h : c = 6 * at'
  · rw [if_pos h, h, rg_a ha (.inl rfl)]
  · rw [if_neg h]
    unfold rgF
    simp only [Bool.false_eq_true, false_and, if_false, true_and]
    rw [if_neg h]
end
end Go.Proofs.YtiocnfambeochaaGreatDoor

/- Names of the first column, small numbers; calls on a sheet whose answer is known. -/
set_option linter.unusedVariables false
set_option linter.unusedSimpArgs false
namespace Go.Proofs.YtiocnfambeochaaGreatDoor
open Go.RowKit

def nA (j : Nat) : ByteArray := ⟨#[65, UInt8.ofNat (49 + j)]⟩
theorem eight {j : Nat} (h : j < 8) : j = 0 ∨ j = 1 ∨ j = 2 ∨ j = 3 ∨ j = 4 ∨ j = 5 ∨ j = 6 ∨ j = 7 := by omega
theorem name_w {j : Nat} (h : j < 8) (w : World) : Calls Tryz.prog 24 #[.int .i64 (6 * (j : Int))] w fun e w' => e = .returned (.string (nA j)) ∧ Below w.heap.size w w' := by
  have := name_any (6 * j) (by omega) w
  rw [show ((6 * j : Nat) : Int) = 6 * (j : Int) by omega] at this
  refine this.mono ?_
  rintro e w' ⟨rfl, hb⟩
  refine ⟨?_, hb⟩
  unfold nmT nA
  rw [show 6 * j % 6 = 0 by omega, show 6 * j / 6 = j by omega]
  rfl
theorem nA_cell {j : Nat} (h : j < 8) : cellN (nA j).data.toList = some (6 * j) := by
  rcases eight h with rfl | rfl | rfl | rfl | rfl | rfl | rfl | rfl <;> decide
theorem meas {a b : Int} (h : a < b) (h1 : b ≤ 100) : (100 - b).toNat < (100 - a).toNat := by omega
/-- Numbers of a ring's cell. -/
structure Num7 (i : Nat) : Prop where
  m1 : IntKind.i64.wrap (6 * (i : Int)) = 6 * (i : Int)
  m2 : wrap64 (6 * (i : Int)) = 6 * (i : Int)
  p1 : IntKind.i64.wrap ((i : Int) + 1) = (i : Int) + 1
  p2 : wrap64 ((i : Int) + 1) = (i : Int) + 1
  s1 : IntKind.i64.wrap (i : Int) = (i : Int)
  s2 : wrap64 (i : Int) = (i : Int)
theorem num7 {i : Nat} (h : i < 8) : Num7 i := ⟨by rw [IntKind.wrap_i64]; omega, by unfold wrap64; omega, by rw [IntKind.wrap_i64]; omega, by unfold wrap64; omega, by rw [IntKind.wrap_i64]; omega, by unfold wrap64; omega⟩
section
variable {E : Env} {w0 w w' : World} {x : Nat} {fl fs : Nat → ByteArray} {k k' : Kp}
theorem is_v (h : Hid (ShS E w0 w x fl fs k)) {cl : ByteArray} {c : Nat} (hc : Hid (cellN cl.data.toList = some c)) (n : Int) (hv : (k.last c).v = vI n) :
    Calls Tryz.prog 27 #[.pointer (some ⟨x, 0, none⟩), .string cl, .int .i64 n] w fun e w' => e = .returned (.bool true) ∧ Hid (ShS E w0 w' x fl fs k) := by
  refine (is_s h hc n).mono ?_
  rintro e w' ⟨rfl, h1⟩
  rw [hv, eqB_self]
  exact ⟨rfl, h1.out.1⟩
theorem fails_v (h : Hid (ShS E w0 w x fl fs k)) {cl : ByteArray} {c : Nat} (hc : Hid (cellN cl.data.toList = some c)) (n : Int) (hv : (k.last c).v = vE n) :
    Calls Tryz.prog 28 #[.pointer (some ⟨x, 0, none⟩), .string cl, .int .i64 n] w fun e w' => e = .returned (.bool true) ∧ Hid (ShS E w0 w' x fl fs k) := by
  refine (fails_s h hc n).mono ?_
  rintro e w' ⟨rfl, h1⟩
  rw [hv, eqB_self]
  exact ⟨rfl, h1.out.1⟩
theorem fails_b (h : Hid (ShS E w0 w x fl fs k)) {cl : ByteArray} {c : Nat} (hc : Hid (cellN cl.data.toList = some c)) (n m : Int) (hv : (k.last c).v = vI m) :
    Calls Tryz.prog 28 #[.pointer (some ⟨x, 0, none⟩), .string cl, .int .i64 n] w fun e w' => e = .returned (.bool false) ∧ Hid (ShS E w0 w' x fl fs k) := by
  refine (fails_s h hc n).mono ?_
  rintro e w' ⟨rfl, h1⟩
  rw [hv, eqB_ne (by unfold vI vE; simp)]
  exact ⟨rfl, h1.out.1⟩
theorem val_v (h : Hid (ShS E w0 w x fl fs k)) {cl : ByteArray} {c : Nat} (hc : Hid (cellN cl.data.toList = some c)) (a b : Int) (hv : (k.last c).v = ⟨a, b, eB⟩) :
    Calls Tryz.prog 29 #[.pointer (some ⟨x, 0, none⟩), .string cl] w fun e w' => e = .returned (.tuple #[.agg #[.int .i64 a, .int .i64 b, .string ⟨#[]⟩], .int .i64 0]) ∧ Hid (ShS E w0 w' x fl fs k ∧ Below w.heap.size w w') := by
  refine (value_some w x h.out.sr cl c hc).mono ?_
  rintro e w' ⟨rfl, hb⟩
  rw [hv]
  exact ⟨rfl, h.out.below hb, hb⟩
theorem bel_alloc (w : World) (o : Obj) : Below w.heap.size w (w.alloc o) := (Below.refl _ _).alloc (Nat.le_refl _) _
theorem old_cell {w w' : World} {o : Obj} {j : Nat} {v : Value} (hb : Below (w.alloc o).heap.size (w.alloc o) w') (hv : (w.alloc o).cell? ⟨w.heap.size, j, none⟩ = some v) (o' : Obj) : (w'.alloc o').cell? ⟨w.heap.size, j, none⟩ = some v := by
  have h1 : w.heap.size < (w.alloc o).heap.size := by simp
  have h2 : w.heap.size < w'.heap.size := Nat.lt_of_lt_of_le h1 hb.size
  rw [(bel_alloc w' o').cell (p := ⟨w.heap.size, j, none⟩) h2, hb.cell (p := ⟨w.heap.size, j, none⟩) h1]
  exact hv
end
end Go.Proofs.YtiocnfambeochaaGreatDoor
