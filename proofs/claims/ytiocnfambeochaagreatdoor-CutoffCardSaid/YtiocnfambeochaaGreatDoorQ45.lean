/- Texts put together. -/
import Derived.Test.YtiocnfambeochaaGreatDoorTb
import Derived.Test.YtiocnfambeochaaGreatDoorQ44
import Derived.Deep.CutRange
/- A working out, walked: alongChain. -/
set_option linter.unusedVariables false
set_option linter.unusedSimpArgs false
namespace Go.Proofs.YtiocnfambeochaaGreatDoor
open Go.RowKit

theorem EVc.stepC {w w' : World} {own own' : Nat → Nat} {b x : Nat} {r : Rn} (h : EVc w own) (hR : RR w own b x r) (hS : RSC w own w' own' b x) : EVc w' own' := by
  obtain ⟨g, tp, p, t, f, h1, h2, h3⟩ := h
  have hl := (Array.getElem?_eq_some_iff.1 h3).1
  refine ⟨g, tp, p, t, f, h1, hS.zero g hl h2, ?_⟩
  rw [hS.blk g hl h2]
  · exact h3
  · intro e
    obtain ⟨cs, hb, hs⟩ := hR.blk
    rw [e, hb] at h3
    cases h3
    simp at hs
  · intro e
    obtain ⟨cs, hb, hs⟩ := hR.xblk
    rw [e, hb] at h3
    cases h3
    simp at hs
theorem Ends.next {S : Type} {f : S → S} {fin : S → Bool} {s s' : S} (h : Ends f fin s s') (hf : fin s = false) : Ends f fin (f s) s' := by
  obtain ⟨n, h1, h2, h3⟩ := h
  cases n with
  | zero => rw [← h1] at h2; rw [show iter f 0 s = s from rfl, hf] at h2; cases h2
  | succ n => exact ⟨n, h1, h2, fun k hk => h3 (k + 1) (by omega)⟩
theorem Ends.now {S : Type} {f : S → S} {fin : S → Bool} {s s' : S} (h : Ends f fin s s') (hf : fin s = true) : s' = s := (Ends.same (Ends.here hf) h).symm
/-- So far along the chain. -/
def ChS (E : Env) (val : Nat → V) (S0 : Con) (Cl : Nat → Prop) (X : Nat → Ans → Prop) (w : World) (own : Nat → Nat) (b x : Nat) (r0 : Rn) (fin : CS) (g : Nat) (s : CS) (wr : World) : Prop :=
  ∃ own1 n, RR wr own1 b x s.r ∧ RSC w own wr own1 b x ∧ ChA wr x s.ch ∧ ChJ E val S0 Cl X r0 s ∧ Ends (chainF E) chainE s fin ∧ Cnt n s.r ∧ n + 2 * chPot s ≤ 10000 ∧ g = chPot s
section
variable {E : Env} {val : Nat → V} {S0 : Con} {Cl : Nat → Prop} {X : Nat → Ans → Prop}
set_option maxRecDepth 100000 in
set_option maxHeartbeats 4000000 in
theorem chain_w (hW : Hid (RightW E)) (hX : Hid (XK E val S0 Cl X)) (w : World) (own : Nat → Nat) (b x : Nat) (r0 : Rn) (ch : List Nat) (fin : CS) (hR : Hid (RR w own b x r0)) (hV : Hid (EVc w own)) (hF : Hid (EnvF E r0.fs)) (h : Hid (ChS E val S0 Cl X w own b x r0 fin (chPot ⟨0, ch, r0⟩) ⟨0, ch, r0⟩ w)) :
    Calls Tryz.prog 84 #[.pointer (some ⟨b, 0, none⟩), .pointer (some ⟨x, 384, none⟩)] w fun e w' => e = .returned (.tuple #[]) ∧ Hid (∃ own', RR w' own' b x fin.r ∧ RSC w own w' own' b x ∧ ChA w' x fin.ch) := by
  obtain ⟨g0, hg0⟩ : ∃ g, chPot ⟨0, ch, r0⟩ = g := ⟨_, rfl⟩
  rw [hg0] at h
  clear hg0
  go_enter Tryz.func84, Tryz.ntmps84
  go_wp2_with fail
  go_loopg [4] g0 (fun g s wr => ∃ S : CS, s = .int .i64 S.at' ∧ Hid (ChS E val S0 Cl X w own b x r0 fin g S wr))
  case atStart => exact ⟨⟨0, ch, r0⟩, rfl, h⟩
  case round =>
    obtain ⟨S, rfl, HS⟩ := hrel
    obtain ⟨own1, n, R1, S1, A1, J1, E1, C1, P1, G1⟩ := HS.out
    have HG : Hid (gk = chPot S) := G1
    by_cases hat : S.at' < 48
    · have hch : chainE S = false := by simpa [chainE] using hat
      obtain ⟨⟨J2, P2⟩, c, hc, hget, hout⟩ := chain_step hW.out hX.out J1 hch
      have hcell := A1.2 _ _ hget
      have hE2 := E1.next hch
      obtain ⟨⟨cs1, I1⟩, K1, Fr1, _⟩ := J1
      have HT : Hid (TurnOK E S.r c) := I1.turnOK hW.out hX.out (by rw [Fr1.fs]; exact hF.out) C1 (by omega)
      have HSW : Hid (S.r.store.kept.length = 64) := I1.sw.len
      have HR1 : Hid (RR wr own1 b x S.r) := R1
      have HS1 : Hid (RSC w own wr own1 b x) := S1
      have HA1 : Hid (ChA wr x S.ch) := A1
      have HJ2 : Hid (ChJ E val S0 Cl X r0 (chainF E S)) := J2
      have HP2 : Hid (chPot (chainF E S) < chPot S) := P2
      have HE2 : Hid (Ends (chainF E) chainE (chainF E S) fin) := hE2
      have HC1 : Hid (Cnt n S.r) := C1
      have HP1 : Hid (n + 2 * chPot S ≤ 10000) := P1
      have HK1 : Hid (ChOK S.ch) := K1
      have HV1 : Hid (EVc wr own1) := hV.out.stepC hR.out S1
      have HGT : Hid (S.ch[S.at']? = some c) := hget
      have HAT : Hid (S.at' < 48) := hat
      have hati : (S.at' : Int) < 48 := by omega
      have hat0 : 0 ≤ (S.at' : Int) := by omega
      have w1' : IntKind.i64.wrap ((S.at' : Int) + 1) = (S.at' : Int) + 1 := by rw [IntKind.wrap_i64]; omega
      have w2' : wrap64 ((S.at' : Int) + 1) = (S.at' : Int) + 1 := by unfold wrap64; omega
      clear R1 S1 A1 J2 E1 C1 P1 P2 G1 HS hE2 I1 K1 Fr1 hget hat h
      obtain ⟨u, hu⟩ : ∃ u, turnP E S.r c = u := ⟨_, rfl⟩
      rw [hu] at hout
      have HU : Hid (turnP E S.r c = u) := hu
      clear hu
      go_wp2_with fail
      refine (turn_w E hW.out wr own1 b x S.r c hc HR1.out HV1.out HT.out).mono ?_
      rintro e w2 ⟨rfl, h2⟩
      rw [HU.out] at h2 ⊢
      unfold trnV
      rcases hout with ⟨ht, hf⟩ | ⟨ht, o, ho, ho48, hoc, hod, hf⟩
      · rw [ht]
        have HFF : Hid (chainF E S = ⟨S.at' + 1, S.ch, u.1⟩) := hf
        clear hf ht
        go_wp2_with fail
        go_roundg (chPot (chainF E S))
        case rel =>
          obtain ⟨own2, R2, S2⟩ := h2.out
          refine ⟨chainF E S, by rw [HFF.out]; go_num, own2, n + 2, ?_, HS1.out.trans S2.toC, ?_, HJ2.out, HE2.out, ?_, ?_, rfl⟩
          · rw [HFF.out]; exact R2
          · rw [HFF.out]; exact HA1.out.step S2
          · rw [HFF.out]; show Cnt (n + 2) u.1; rw [← HU.out]; exact HC1.out.turn HSW.out
          · have := HP1.out; have := HP2.out; omega
        case measure => have := HG.out; have := HP2.out; omega
      · rw [ht, ho]
        have HFF : Hid (chainF E S = ⟨S.at', moveP S.at' o S.ch, leaveP u.1 c⟩) := hf
        have HOC : Hid (o ≠ c) := hoc
        have HOD : Hid (o ∈ S.ch.drop S.at') := hod
        obtain ⟨own2, R2, S2⟩ := h2.out
        have HR2 : Hid (RR w2 own2 b x u.1) := R2
        have HS2 : Hid (RStep wr own1 w2 own2 b x) := S2
        clear hf ht h2 hoc hod R2 S2
        go_wp2_with fail
        refine (leave_w w2 own2 b x u.1 c hc HR2).mono ?_
        rintro e w3 ⟨rfl, h3⟩
        obtain ⟨own3, R3, S3⟩ := h3.out
        have HR3 : Hid (RR w3 own3 b x (leaveP u.1 c)) := R3
        have HS3 : Hid (RStep wr own1 w3 own3 b x) := HS2.out.trans S3
        have HA3 : Hid (ChA w3 x S.ch) := HA1.out.step HS3.out
        clear h3 R3 S3
        go_wp2_with fail
        refine (moveTo_w w3 x S.at' o S.ch HR3.out.xblk HA3 HOD (by unfold Hid; rw [HGT.out]; intro e; exact HOC.out (Option.some.inj e).symm) HK1.out.only).mono ?_
        rintro e w4 ⟨rfl, h4⟩
        go_wp2_with fail
        go_roundg (chPot (chainF E S))
        case rel =>
          obtain ⟨A4, M4⟩ := h4.out
          refine ⟨chainF E S, by rw [HFF.out], own3, n + 2, ?_, (HS1.out.trans HS3.out.toC).mv M4, ?_, HJ2.out, HE2.out, ?_, ?_, rfl⟩
          · rw [HFF.out]; exact HR3.out.mv M4
          · rw [HFF.out]; exact A4
          · rw [HFF.out]; show Cnt (n + 2) (leaveP u.1 c); rw [← HU.out]; exact (HC1.out.turn HSW.out).leave c
          · have := HP1.out; have := HP2.out; omega
        case measure => have := HG.out; have := HP2.out; omega
    · have hch : chainE S = true := by simpa [chainE] using hat
      have hfin : fin = S := E1.now hch
      have HFIN : Hid (∃ own', RR wr own' b x fin.r ∧ RSC w own wr own' b x ∧ ChA wr x fin.ch) := by rw [hfin]; exact ⟨own1, R1, S1, A1⟩
      have hge : ¬ (S.at' : Int) < 48 := by omega
      clear R1 S1 A1 J1 E1 C1 P1 G1 HS hch hfin hat h
      go_wp2_with fail
      refine bodyPost_end (results_none rfl _ _ _) rfl ?_
      exact ⟨rfl, HFIN⟩
end
end Go.Proofs.YtiocnfambeochaaGreatDoor

/- A working out, walked: restart. -/
set_option linter.unusedVariables false
set_option linter.unusedSimpArgs false
namespace Go.Proofs.YtiocnfambeochaaGreatDoor
open Go.RowKit

theorem QV.nil (w : World) (own : Nat → Nat) (b x lim : Nat) : QV w own b x lim (.slice none 0 0) [] := ⟨slc_nil w 3 1, fun g hg => by cases hg⟩
theorem QV.head {w : World} {own : Nat → Nat} {b x lim : Nat} {v : Value} {c : Nat} {t : List Nat} (h : QV w own b x lim v (c :: t)) : ∃ g o cap, v = .slice (some ⟨g, o, none⟩) (t.length + 1) cap ∧ t.length + 1 ≤ cap ∧ cap ≤ maxLen ∧ w.cell? ⟨g, o, none⟩ = some (.int .i64 c) ∧
    ∀ nv, (nv = .slice (some ⟨g, o + 1, none⟩) t.length (cap - 1) ∨ (cap = 1 ∧ nv = .slice (some ⟨g, o, none⟩) 0 0)) → QV w own b x lim nv t := by
  have hs := h.sl
  rcases hs.2 with ⟨_, h0⟩ | ⟨g, o, cap, cur, hv, hg, hn, hm, hsz, ht⟩
  · simp at h0
  · subst hv
    refine ⟨g, o, cap, rfl, hn, hm, ?_, ?_⟩
    · have := Slc.cell hs 0 (.int .i64 c) rfl
      exact this
    · rintro nv (rfl | ⟨hc1, rfl⟩)
      · refine ⟨⟨by simp, .inr ⟨g, o + 1, cap - 1, cur, rfl, hg, ?_, by omega, ?_, ?_⟩⟩, fun g' hg' => h.o g' hg'⟩
        · simp at hn; omega
        · simp at hn; omega
        · rw [show cur.toList.drop (o + 1) = (cur.toList.drop o).drop 1 by rw [List.drop_drop], show t.length * 1 = (t.length + 1) * 1 - 1 by omega, ← List.drop_take]
          have e : List.take ((t.length + 1) * 1) (cur.toList.drop o) = (c :: t).map intV := ht
          rw [e]; rfl
      · have ht0 : t = [] := by
          cases t with
          | nil => rfl
          | cons a t => simp at hn; omega
        subst ht0
        exact ⟨⟨by simp, .inr ⟨g, o, 0, cur, rfl, hg, Nat.le_refl _, Nat.zero_le _, by omega, by simp⟩⟩, fun g' hg' => h.o g' hg'⟩
theorem QV.below {w w' : World} {own : Nat → Nat} {b x lim : Nat} {v : Value} {q : List Nat} (h : QV w own b x lim v q) (hb : Below w.heap.size w w') : QV w' own b x lim v q := ⟨h.sl.kept fun g hg => hb.block g (h.sl.lt g hg), h.o⟩
theorem QV.len {w : World} {own : Nat → Nat} {b x lim : Nat} {v : Value} {q : List Nat} (h : QV w own b x lim v q) : ∃ a cp, v = .slice a q.length cp := h.sl.len
theorem info3b : (Tryz.prog.info? 3).map (fun i => (i.zero, i.size, i.bytes)) = some (some (.int .i64 0), 1, 8) := by kernel_rfl
/-- The queue is being filled. -/
def QF (w : World) (own : Nat → Nat) (b x : Nat) (r0 : Rn) (v : Value) (q : List Nat) (wr : World) : Prop :=
  ∃ own1, RR wr own1 b x r0 ∧ RStep w own wr own1 b x ∧ QV wr own1 b x w.heap.size v q
/-- So far with the queue. -/
def QuS (E : Env) (val : Nat → V) (S0 : Con) (Cl : Nat → Prop) (X : Nat → Ans → Prop) (w : World) (own : Nat → Nat) (b x : Nat) (r0 : Rn) (fin : QS) (g : Nat) (v : Value) (s : QS) (wr : World) : Prop :=
  ∃ own1 n, RR wr own1 b x s.r ∧ RStep w own wr own1 b x ∧ QV wr own1 b x w.heap.size v s.q ∧ QJ E val S0 Cl X r0 s ∧ Ends (queueF E) queueE s fin ∧ Cnt n s.r ∧ n + 2 * qPot s ≤ 10000 ∧ g = qM s
section
variable {E : Env} {val : Nat → V} {S0 : Con} {Cl : Nat → Prop} {X : Nat → Ans → Prop}
set_option maxRecDepth 100000 in
set_option maxHeartbeats 4000000 in
theorem restart_w (hW : Hid (RightW E)) (hX : Hid (XK E val S0 Cl X)) (w : World) (own : Nat → Nat) (b x : Nat) (r0 : Rn) (fin : QS) (hR : Hid (RR w own b x r0)) (hV : Hid (EVc w own)) (hF : Hid (EnvF E r0.fs)) (hJ : Hid (QJ E val S0 Cl X r0 ⟨List.range 48, r0⟩)) (hE : Hid (Ends (queueF E) queueE ⟨List.range 48, r0⟩ fin)) (hC : Hid (Cnt 0 r0)) :
    Calls Tryz.prog 85 #[.pointer (some ⟨b, 0, none⟩)] w fun e w' => e = .returned (.tuple #[]) ∧ Hid (RS w own b x w' fin.r) := by
  obtain ⟨i0, hi, hii⟩ := Option.map_eq_some_iff.1 info3b
  have hz0 : i0.zero = some (.int .i64 0) := congrArg (fun t => t.1) hii
  have hz1 : i0.size = 1 := congrArg (fun t => t.2.1) hii
  have hz2 : i0.bytes = 8 := congrArg (fun t => t.2.2) hii
  clear hii
  go_enter Tryz.func85, Tryz.ntmps85
  go_wp2_with fail
  go_loopw [2, 7] (fun v s wr => ∃ j : Nat, s = .int .i64 j ∧ Hid (j ≤ 48) ∧ Hid (QF w own b x r0 v (List.range j) wr)) (fun _ s _ => (48 - intOf s).toNat)
  case atStart => exact ⟨0, rfl, Nat.zero_le _, own, hR.out, RStep.refl _ _ _ _, QV.nil _ _ _ _ _⟩
  case round =>
    obtain ⟨j, rfl, HJ, HQ⟩ := hrel
    by_cases hj : j < 48
    · have hji : (j : Int) < 48 := by omega
      have w1' : IntKind.i64.wrap ((j : Int) + 1) = (j : Int) + 1 := by rw [IntKind.wrap_i64]; omega
      have w2' : wrap64 ((j : Int) + 1) = (j : Int) + 1 := by unfold wrap64; omega
      obtain ⟨own1, R1, S1, Q1⟩ := HQ.out
      have HR1 : Hid (RR wr own1 b x r0) := R1
      have HS1 : Hid (RStep w own wr own1 b x) := S1
      have HQ1 : Hid (QV wr own1 b x w.heap.size u2 (List.range j)) := Q1
      have HJ' : Hid (j < 48) := hj
      clear R1 S1 Q1 HQ hj
      go_wp2_with (at_builtin; go_must (refine wpList_append_sl (w := _) rfl _ _ 56 rfl 3 i0 _ 1 8 Tryz.underlying56 hi hz0 hz1 hz2 rfl _ _ _ rfl (HQ1.out.sl.kept ?c0) ⟨wr.heap.size, 0, none⟩ 1 1 [.int .i64 j] rfl (by decide) rfl ?c1 ?c2 ?c3 ?c4 ?_))
      case c0 => intro g hg; exact Below.heap_alloc _ _ _ (HQ1.out.sl.lt g hg)
      case c1 =>
        intro k u hk
        match k, hk with
        | 0, hk => simp at hk; subst hk; simp [Addr.add]
        | k + 1, hk => simp at hk
      case c2 => intro u hu; simp at hu; subst hu; rfl
      case c3 => have := HJ'.out; unfold maxLen; simp; omega
      case c4 => have := HJ'.out; simp; omega
      intro v' w2 hsl hgr hob
      have HN : Hid (QF w own b x r0 v' (List.range (j + 1)) w2) := by
        obtain ⟨own2, R2, Q2, S2⟩ := HR1.out.queue (q' := List.range (j + 1)) HQ1.out HS1.out (Nat.le_refl _) HS1.out.size hR.out.xlt (bl1 wr _) hgr (hob.imp id fun h => ⟨_, Nat.le_succ _, h.1⟩) (by
          rw [List.range_succ, List.length_append, List.map_append, List.length_range]; exact hsl)
        exact ⟨own2, R2, S2, Q2⟩
      clear hsl hgr hob HR1 HS1 HQ1
      go_wp2_with fail
      go_roundw
      case rel => exact ⟨j + 1, by go_num, HJ'.out, HN⟩
      case measure => simp [intOf]; omega
    · have hge : ¬ (j : Int) < 48 := by omega
      have hj48 : j = 48 := by have := HJ.out; omega
      rw [hj48] at HQ
      have HQS : Hid (QuS E val S0 Cl X w own b x r0 fin (qM ⟨List.range 48, r0⟩) u2 ⟨List.range 48, r0⟩ wr) := by
        obtain ⟨own1, R1, S1, Q1⟩ := HQ.out
        refine ⟨own1, 0, R1, S1, Q1, hJ.out, hE.out, hC.out, ?_, rfl⟩
        have := msr_le r0
        unfold qPot
        simp; omega
      clear HQ hj HJ hj48
      go_wp2_with fail
      go_loopg [2] (qM ⟨List.range 48, r0⟩) (fun g v wr => ∃ S : QS, Hid (QuS E val S0 Cl X w own b x r0 fin g v S wr))
      case atStart => exact ⟨_, HQS⟩
      case round =>
        clear HQS hge
        obtain ⟨S, HS⟩ := hrel
        obtain ⟨own1, n, R1, S1, Q1, J1, E1, C1, P1, G1⟩ := HS.out
        have HG : Hid (gk = qM S) := G1
        have HR1 : Hid (RR wr own1 b x S.r) := R1
        have HS1 : Hid (RStep w own wr own1 b x) := S1
        cases hq : S.q with
        | nil =>
          have hfin : fin = S := E1.now (by unfold queueE; rw [hq]; rfl)
          have HFIN : Hid (RS w own b x wr fin.r) := by rw [hfin]; exact ⟨own1, R1, S1⟩
          rw [hq] at Q1
          obtain ⟨qa, qc, rfl⟩ := Q1.len
          clear R1 S1 Q1 J1 E1 C1 P1 G1 HS hq hfin HR1 HS1
          dsimp only [List.length_nil]
          go_wp2_with fail
          refine bodyPost_end (results_none rfl _ _ _) rfl ?_
          exact ⟨rfl, HFIN⟩
        | cons c t =>
          have hch : queueE S = false := by unfold queueE; rw [hq]; rfl
          obtain ⟨⟨J2, P2⟩, c', t', hq', hc, hout⟩ := queue_step hW.out hX.out J1 hch
          rw [hq] at hq'
          cases hq'
          have hE2 := E1.next hch
          obtain ⟨⟨cs1, I1⟩, Fr1, _, HL48, _⟩ := J1
          rw [hq] at Q1 HL48
          obtain ⟨g, o, cap, rfl, hcap, hcm, hcell, htail⟩ := Q1.head
          have HT : Hid (TurnOK E S.r c) := I1.turnOK hW.out hX.out (by rw [Fr1.fs]; exact hF.out) C1 (by omega)
          have HWT : Hid (WtOK S.r) := I1.wtOK
          have HSW : Hid (S.r.store.kept.length = 64) := I1.sw.len
          have HJ2 : Hid (QJ E val S0 Cl X r0 (queueF E S)) := J2
          have HP2 : Hid (qM (queueF E S) < qM S) := P2
          have HE2 : Hid (Ends (queueF E) queueE (queueF E S) fin) := hE2
          have HC1 : Hid (Cnt n S.r) := C1
          have HP1 : Hid (n + 2 * qPot S ≤ 10000) := P1
          have HV1 : Hid (EVc wr own1) := hV.out.step hR.out S1
          have HLN : Hid (t.length ≤ 47) := by rw [List.length_cons] at HL48; unfold Hid; omega
          have HCM : Hid (t.length + 1 ≤ cap ∧ cap ≤ maxLen) := ⟨hcap, hcm⟩
          obtain ⟨nv, hnv⟩ : ∃ nv, nv = if cap = 1 then Value.slice (some ⟨g, o, none⟩) 0 0 else Value.slice (some ⟨g, o + 1, none⟩) t.length (cap - 1) := ⟨_, rfl⟩
          have HQT : Hid (QV wr own1 b x w.heap.size nv t) := htail nv (by
            rw [hnv]
            by_cases h1 : cap = 1
            · rw [if_pos h1]; exact .inr ⟨h1, rfl⟩
            · rw [if_neg h1]; exact .inl rfl)
          have HPT : Hid (qPot S = msr S.r + (t.length + 1)) := by unfold Hid qPot; rw [hq, List.length_cons]
          clear R1 S1 J2 E1 C1 P1 P2 G1 HS hE2 I1 Fr1 hch htail HL48 hcap hcm Q1 hq
          obtain ⟨u, hu⟩ : ∃ u, turnP E S.r c = u := ⟨_, rfl⟩
          rw [hu] at hout
          have HU : Hid (turnP E S.r c = u) := hu
          obtain ⟨B, hB⟩ : ∃ B, stillB S.r c = B := ⟨_, rfl⟩
          rw [hB] at hout
          have HB : Hid (stillB S.r c = B) := hB
          have HNV : Hid (nv = if cap = 1 then Value.slice (some ⟨g, o, none⟩) 0 0 else Value.slice (some ⟨g, o + 1, none⟩) t.length (cap - 1)) := hnv
          clear hu hB hnv
          go_upto_region 8 with fail
          go_cut [2] from 15 to 44 (fun s wx => nv = s ∧ wr = wx)
          case first =>
            have h1 := HCM.out
            by_cases hc1 : cap = 1
            · have ht0 : t.length = 0 := by omega
              subst hc1
              rw [ht0]
              go_wp2_with fail
              go_meet
              rw [HNV.out]
              simp
            · have hle : (1 : Int) ≤ (t.length : Int) + 1 := by omega
              have hle2 : 1 ≤ t.length + 1 := by omega
              go_wp2_with fail
              go_meet
              rw [HNV.out, if_neg hc1]
              exact ⟨rfl, rfl⟩
          case rest =>
            obtain ⟨rfl, rfl⟩ := hcut
            clear HNV HCM hcell
            go_wp2_with fail
            refine (still_w _ own1 b x S.r c hc HR1 HWT).mono ?_
            rintro e w2 ⟨rfl, hb2⟩
            obtain ⟨R2, S2⟩ := HR1.out.below (own' := own1) hb2 (fun _ _ => rfl)
            have HR2 : Hid (RR w2 own1 b x S.r) := R2
            have HS2 : Hid (RStep w own w2 own1 b x) := HS1.out.trans S2
            have HQ2 : Hid (QV w2 own1 b x w.heap.size nv t) := HQT.out.below hb2
            have HV2 : Hid (EVc w2 own1) := hV.out.step hR.out HS2.out
            rw [HB.out]
            clear R2 S2 hb2 HR1 HS1 HQT HV1
            rcases hout with ⟨rfl, hf⟩ | ⟨rfl, hf, hpot⟩
            · have HFF : Hid (queueF E S = ⟨t ++ [c], S.r⟩) := hf
              clear hf
              go_wp2_with (at_builtin; go_must (refine wpList_append_sl (w := _) rfl _ _ 56 rfl 3 i0 _ 1 8 Tryz.underlying56 hi hz0 hz1 hz2 rfl _ _ _ rfl (HQ2.out.sl.kept ?c0) ⟨w2.heap.size, 0, none⟩ 1 1 [.int .i64 c] rfl (by decide) rfl ?c1 ?c2 ?c3 ?c4 ?_))
              case c0 => intro g hg; exact Below.heap_alloc _ _ _ (HQ2.out.sl.lt g hg)
              case c1 =>
                intro k u hk
                match k, hk with
                | 0, hk => simp at hk; subst hk; simp [Addr.add]
                | k + 1, hk => simp at hk
              case c2 => intro u hu; simp at hu; subst hu; rfl
              case c3 => have := HLN.out; unfold maxLen; omega
              case c4 => have := HLN.out; omega
              intro v' w3 hsl hgr hob
              have HN : Hid (QuS E val S0 Cl X w own b x r0 fin (qM (queueF E S)) v' (queueF E S) w3) := by
                obtain ⟨own2, R3, Q3, S3⟩ := HR2.out.queue (q' := t ++ [c]) HQ2.out HS2.out (Nat.le_refl _) HS2.out.size hR.out.xlt (bl1 w2 _) hgr (hob.imp id fun h => ⟨_, Nat.le_succ _, h.1⟩) (by
                  rw [List.length_append, List.map_append]; exact hsl)
                refine ⟨own2, n, ?_, S3, ?_, HJ2.out, HE2.out, ?_, ?_, rfl⟩
                · rw [HFF.out]; exact R3
                · rw [HFF.out]; exact Q3
                · rw [HFF.out]; exact HC1.out
                · have h1 := HP1.out
                  have h2 := HPT.out
                  rw [HFF.out]
                  show n + 2 * (msr S.r + (t ++ [c]).length) ≤ 10000
                  rw [List.length_append, List.length_singleton]; omega
              clear hsl hgr hob HR2 HS2 HQ2 HFF
              go_wp2_with fail
              go_roundg (qM (queueF E S))
              case rel => exact ⟨_, HN⟩
              case measure => have := HG.out; have := HP2.out; omega
            · have HPO : Hid (qPot (queueF E S) < qPot S) := hpot
              clear hpot
              go_wp2_with fail
              refine (turn_w E hW.out w2 own1 b x S.r c hc HR2.out HV2.out HT.out).mono ?_
              rintro e w3 ⟨rfl, h3⟩
              rw [HU.out] at h3 ⊢
              unfold trnV
              obtain ⟨own3, R3, S3⟩ := h3.out
              have HR3 : Hid (RR w3 own3 b x u.1) := R3
              have HS3 : Hid (RStep w own w3 own3 b x) := HS2.out.trans S3
              have HQ3 : Hid (QV w3 own3 b x w.heap.size nv t) := HQ2.out.step S3
              clear R3 S3 h3 HR2 HS2 HQ2 HV2
              rcases hf with ⟨ht, hf⟩ | ⟨ht, hf⟩
              · rw [ht]
                have HFF : Hid (queueF E S = ⟨t, u.1⟩) := hf
                clear ht hf
                go_wp2_with fail
                go_roundg (qM (queueF E S))
                case rel =>
                  refine ⟨_, own3, n + 2, ?_, HS3.out, ?_, HJ2.out, HE2.out, ?_, ?_, rfl⟩
                  · rw [HFF.out]; exact HR3.out
                  · rw [HFF.out]; exact HQ3.out
                  · rw [HFF.out]; show Cnt (n + 2) u.1; rw [← HU.out]; exact HC1.out.turn HSW.out
                  · have := HP1.out; have := HPO.out; omega
                case measure => have := HG.out; have := HP2.out; omega
              · rw [ht]
                have HFF : Hid (queueF E S = ⟨t ++ [c], leaveP u.1 c⟩) := hf
                clear ht hf
                go_wp2_with fail
                refine (leave_w w3 own3 b x u.1 c hc HR3).mono ?_
                rintro e w4 ⟨rfl, h4⟩
                obtain ⟨own4, R4, S4⟩ := h4.out
                have HR4 : Hid (RR w4 own4 b x (leaveP u.1 c)) := R4
                have HS4 : Hid (RStep w own w4 own4 b x) := HS3.out.trans S4
                have HQ4 : Hid (QV w4 own4 b x w.heap.size nv t) := HQ3.out.step S4
                clear R4 S4 h4 HR3 HS3 HQ3
                go_wp2_with (at_builtin; go_must (refine wpList_append_sl (w := _) rfl _ _ 56 rfl 3 i0 _ 1 8 Tryz.underlying56 hi hz0 hz1 hz2 rfl _ _ _ rfl (HQ4.out.sl.kept ?c0) ⟨w4.heap.size, 0, none⟩ 1 1 [.int .i64 c] rfl (by decide) rfl ?c1 ?c2 ?c3 ?c4 ?_))
                case c0 => intro g hg; exact Below.heap_alloc _ _ _ (HQ4.out.sl.lt g hg)
                case c1 =>
                  intro k u hk
                  match k, hk with
                  | 0, hk => simp at hk; subst hk; simp [Addr.add]
                  | k + 1, hk => simp at hk
                case c2 => intro u hu; simp at hu; subst hu; rfl
                case c3 => have := HLN.out; unfold maxLen; omega
                case c4 => have := HLN.out; omega
                intro v' w5 hsl hgr hob
                have HN : Hid (QuS E val S0 Cl X w own b x r0 fin (qM (queueF E S)) v' (queueF E S) w5) := by
                  obtain ⟨own2, R5, Q5, S5⟩ := HR4.out.queue (q' := t ++ [c]) HQ4.out HS4.out (Nat.le_refl _) HS4.out.size hR.out.xlt (bl1 w4 _) hgr (hob.imp id fun h => ⟨_, Nat.le_succ _, h.1⟩) (by
                    rw [List.length_append, List.map_append]; exact hsl)
                  refine ⟨own2, n + 2, ?_, S5, ?_, HJ2.out, HE2.out, ?_, ?_, rfl⟩
                  · rw [HFF.out]; exact R5
                  · rw [HFF.out]; exact Q5
                  · rw [HFF.out]; show Cnt (n + 2) (leaveP u.1 c); rw [← HU.out]; exact (HC1.out.turn HSW.out).leave c
                  · have := HP1.out; have := HPO.out; omega
                clear hsl hgr hob HR4 HS4 HQ4 HFF
                go_wp2_with fail
                go_roundg (qM (queueF E S))
                case rel => exact ⟨_, HN⟩
                case measure => have := HG.out; have := HP2.out; omega
end
end Go.Proofs.YtiocnfambeochaaGreatDoor

/- A working out, walked: suspend. -/
set_option linter.unusedVariables false
set_option linter.unusedSimpArgs false
namespace Go.Proofs.YtiocnfambeochaaGreatDoor
open Go.RowKit

theorem QV.last {w : World} {own : Nat → Nat} {b x lim : Nat} {v : Value} {c : Nat} {t : List Nat} (h : QV w own b x lim v (t ++ [c])) : ∃ g o cap, v = .slice (some ⟨g, o, none⟩) (t.length + 1) cap ∧ t.length + 1 ≤ cap ∧ cap ≤ maxLen ∧ w.cell? ⟨g, o + t.length, none⟩ = some (.int .i64 c) ∧
    QV w own b x lim (.slice (some ⟨g, o, none⟩) t.length cap) t := by
  have hs := h.sl
  rw [List.length_append, List.length_singleton] at hs
  rcases hs.2 with ⟨_, h0⟩ | ⟨g, o, cap, cur, hv, hg, hn, hm, hsz, ht⟩
  · omega
  · subst hv
    refine ⟨g, o, cap, rfl, hn, hm, ?_, ?_⟩
    · have := Slc.cell hs t.length (.int .i64 c) (by rw [List.map_append, List.getElem?_append_right (by simp)]; simp [intV])
      exact this
    · refine ⟨?_, fun g' hg' => h.o g' hg'⟩
      have := hs.cut (m := t.length) (by omega)
      rw [List.map_append, List.take_append_of_le_length (by simp), List.take_of_length_le (by simp)] at this
      exact this
theorem small_nums {m cap : Nat} (h : m ≤ 9999) (hc : m + 1 ≤ cap) : IntKind.i64.wrap (m : Int) = m ∧ wrap64 (m : Int) = m ∧ (m : Int) < (m : Int) + 1 ∧ 0 ≤ (m : Int) ∧ (m : Int) ≤ (cap : Int) ∧ 0 < (m : Int) + 1 ∧ m ≤ cap ∧ 0 < m + 1 :=
  ⟨by rw [IntKind.wrap_i64]; omega, by unfold wrap64; omega, by omega, by omega, by omega, by omega, by omega, by omega⟩
/-- So far with the stack of one cell. -/
def StS (E : Env) (val : Nat → V) (S0 : Con) (Cl : Nat → Prop) (X : Nat → Ans → Prop) (w : World) (own : Nat → Nat) (b x : Nat) (r1 : Rn) (c0 : Nat) (fin : QS) (g : Nat) (v : Value) (s : QS) (wr : World) : Prop :=
  ∃ own1 n, RR wr own1 b x s.r ∧ RStep w own wr own1 b x ∧ QV wr own1 b x w.heap.size v s.q.reverse ∧ SJ E val S0 Cl X r1 c0 s ∧ Ends (stackF E) queueE s fin ∧ Cnt n s.r ∧ n + 2 * (sPot s + (47 - c0)) ≤ 10000 ∧ g = sPot s
/-- So far with the cells. -/
def SuS (E : Env) (val : Nat → V) (S0 : Con) (Cl : Nat → Prop) (X : Nat → Ans → Prop) (w : World) (own : Nat → Nat) (b x : Nat) (r0 rf : Rn) (j : Nat) (wr : World) : Prop :=
  ∃ own1 n r1, RR wr own1 b x r1 ∧ RStep w own wr own1 b x ∧ (∃ cs, Inv E val S0 Cl X r1 cs) ∧ r1.fs = r0.fs ∧ (∀ x, waitB r1 x = false) ∧ Sus E (48 - j) j r1 rf ∧ Cnt n r1 ∧ n + 2 * (2 * msr r1 + (48 - j)) ≤ 10000
section
variable {E : Env} {val : Nat → V} {S0 : Con} {Cl : Nat → Prop} {X : Nat → Ans → Prop}
set_option maxRecDepth 100000 in
set_option maxHeartbeats 4000000 in
theorem suspend_w (hW : Hid (RightW E)) (hX : Hid (XK E val S0 Cl X)) (w : World) (own : Nat → Nat) (b x : Nat) (r0 rf : Rn) (hR : Hid (RR w own b x r0)) (hV : Hid (EVc w own)) (hF : Hid (EnvF E r0.fs)) (hI : Hid (∃ cs, Inv E val S0 Cl X r0 cs)) (hN : Hid (∀ x, waitB r0 x = false)) (hS : Hid (Sus E 48 0 r0 rf)) (hC : Hid (Cnt 0 r0)) :
    Calls Tryz.prog 86 #[.pointer (some ⟨b, 0, none⟩)] w fun e w' => e = .returned (.tuple #[]) ∧ Hid (RS w own b x w' rf) := by
  obtain ⟨i0, hi, hii⟩ := Option.map_eq_some_iff.1 info3b
  have hz0 : i0.zero = some (.int .i64 0) := congrArg (fun t => t.1) hii
  have hz1 : i0.size = 1 := congrArg (fun t => t.2.1) hii
  have hz2 : i0.bytes = 8 := congrArg (fun t => t.2.2) hii
  have HS0 : Hid (SuS E val S0 Cl X w own b x r0 rf 0 w) := ⟨own, 0, r0, hR.out, RStep.refl _ _ _ _, hI.out, rfl, hN.out, hS.out, hC.out, by have := msr_le r0; omega⟩
  clear hii hI hN hS hC
  go_enter Tryz.func86, Tryz.ntmps86
  go_wp2_with fail
  go_loopw [6] (fun s wr => ∃ j : Nat, s = .int .i64 j ∧ Hid (j ≤ 48) ∧ Hid (SuS E val S0 Cl X w own b x r0 rf j wr)) (fun s _ => (48 - intOf s).toNat)
  case atStart => exact ⟨0, rfl, Nat.zero_le _, HS0⟩
  case round =>
    clear HS0
    obtain ⟨j, rfl, HJ, HQ⟩ := hrel
    by_cases hj : j < 48
    · have hji : (j : Int) < 48 := by omega
      have w1' : IntKind.i64.wrap ((j : Int) + 1) = (j : Int) + 1 := by rw [IntKind.wrap_i64]; omega
      have w2' : wrap64 ((j : Int) + 1) = (j : Int) + 1 := by unfold wrap64; omega
      obtain ⟨own1, n, r1, R1, S1, ⟨cs1, I1⟩, Fs1, N1, Su1, C1, P1⟩ := HQ.out
      obtain ⟨k, hk⟩ : ∃ k, 48 - j = k + 1 := ⟨47 - j, by omega⟩
      rw [hk] at Su1
      obtain ⟨r2, E2, Su2⟩ := Su1
      obtain ⟨RA, SA⟩ := R1.below (own' := ext own1 wr.heap.size) (bl1 wr (.cells #[.int .i64 j] 3)) ext_old
      have HST : Hid (StS E val S0 Cl X w own b x r1 j ⟨[], r2⟩ (sPot ⟨[j], r1⟩) (.slice (some ⟨wr.heap.size, 0, none⟩) 1 1) ⟨[j], r1⟩ (wr.alloc (.cells #[.int .i64 j] 3))) := by
        refine ⟨_, n, RA, S1.trans SA, ⟨⟨rfl, .inr ⟨wr.heap.size, 0, 1, #[.int .i64 j], rfl, rnew wr _ _, Nat.le_refl _, by unfold maxLen; omega, Nat.le_refl _, rfl⟩⟩, fun g hg => ?_⟩, stack_start hj I1 N1, E2, C1, ?_, rfl⟩
        · cases hg
          exact ⟨S1.size, ext_new (Nat.le_refl _), (fun e => by have h1 := R1.lt; have e : wr.heap.size = b := e; omega), (fun e => by have h1 := R1.xlt; have e : wr.heap.size = x := e; omega)⟩
        · show n + 2 * (2 * msr r1 + 1 + (47 - j)) ≤ 10000
          omega
      have HSU : Hid (Sus E k (j + 1) r2 rf) := Su2
      have HK : Hid (48 - j = k + 1) := hk
      have HFS : Hid (r1.fs = r0.fs) := Fs1
      have HJ' : Hid (j < 48) := hj
      clear R1 S1 I1 Fs1 N1 E2 Su2 C1 P1 hk RA SA HQ hj
      go_wp2_with fail
      generalize wr.alloc (Obj.cells #[.int .i64 j] 3) = WA at *
      go_loopg [3] (sPot ⟨[j], r1⟩) (fun g v wr => ∃ S : QS, Hid (StS E val S0 Cl X w own b x r1 j ⟨[], r2⟩ g v S wr))
      case atStart => exact ⟨_, HST⟩
      case round =>
        clear HST
        obtain ⟨S, HS⟩ := hrel
        obtain ⟨own1, n, R1, S1, Q1, J1, E1, C1, P1, G1⟩ := HS.out
        have HG : Hid (gk = sPot S) := G1
        have HR1 : Hid (RR _ own1 b x S.r) := R1
        have HS1 : Hid (RStep w own _ own1 b x) := S1
        cases hq : S.q with
        | nil =>
          have hfin : ⟨[], r2⟩ = S := E1.now (by unfold queueE; rw [hq]; rfl)
          rw [← hfin] at J1 R1 P1 C1
          obtain ⟨i1, i2, i3, i4⟩ := J1.fin
          have HNX : Hid (SuS E val S0 Cl X w own b x r0 rf (j + 1) wr) := by
            refine ⟨own1, n, r2, R1, S1, i1, i2.fs.trans HFS.out, i4, ?_, C1, ?_⟩
            · have := HK.out; have h2 := HSU.out; rw [show 48 - (j + 1) = k by omega]; exact h2
            · have h1 : n + 2 * (2 * msr r2 + 0 + (47 - j)) ≤ 10000 := P1
              omega
          rw [hq] at Q1
          obtain ⟨qa, qc, rfl⟩ := Q1.len
          clear R1 S1 Q1 J1 E1 C1 P1 G1 HS hq hfin HR1 HS1 i1 i2 i3 i4
          dsimp only [List.length_nil, List.reverse_nil]
          go_wp2_with fail
          go_roundw
          case rel => exact ⟨j + 1, by go_num, HJ'.out, HNX⟩
          case measure => simp [intOf]; omega
        | cons c t =>
          have hch : queueE S = false := by unfold queueE; rw [hq]; rfl
          obtain ⟨⟨J2, P2⟩, c', t', hq', hc, hout⟩ := stackJ_step hW.out hX.out J1 hch
          rw [hq] at hq'
          cases hq'
          have hE2 := E1.next hch
          obtain ⟨⟨cs1, I1⟩, _, Fr1, _⟩ := J1
          rw [hq, List.reverse_cons] at Q1
          obtain ⟨g, o, cap, rfl, hcap, hcm, hcell, hpop⟩ := Q1.last
          have HT : Hid (TurnOK E S.r c) := I1.turnOK hW.out hX.out (by rw [Fr1.fs, HFS.out]; exact hF.out) C1 (by omega)
          have HSW : Hid (S.r.store.kept.length = 64) := I1.sw.len
          have HJ2 : Hid (SJ E val S0 Cl X r1 j (stackF E S)) := J2
          have HP2 : Hid (sPot (stackF E S) < sPot S) := P2
          have HE2 : Hid (Ends (stackF E) queueE (stackF E S) ⟨[], r2⟩) := hE2
          have HC1 : Hid (Cnt n S.r) := C1
          have HP1 : Hid (n + 2 * (sPot S + (47 - j)) ≤ 10000) := P1
          have HV1 : Hid (EVc wr own1) := hV.out.step hR.out S1
          have HLN : Hid (t.reverse.length ≤ 9999) := by
            unfold Hid
            have : sPot S = 2 * msr S.r + (t.length + 1) := by unfold sPot; rw [hq, List.length_cons]
            rw [List.length_reverse]; omega
          have HQP : Hid (QV wr own1 b x w.heap.size (.slice (some ⟨g, o, none⟩) t.reverse.length cap) t.reverse) := hpop
          have HQ1 : Hid (QV wr own1 b x w.heap.size (.slice (some ⟨g, o, none⟩) (t.reverse.length + 1) cap) (t.reverse ++ [c])) := Q1
          obtain ⟨m, hm⟩ : ∃ m, t.reverse.length = m := ⟨_, rfl⟩
          rw [hm] at hcell hcap HLN HQP HQ1 ⊢
          have hm9 := HLN.out
          have HM : Hid (t.reverse.length = m) := hm
          obtain ⟨m1, m2, m3, m4, m5, m6, m7, m8⟩ := small_nums hm9 hcap
          obtain ⟨u, hu⟩ : ∃ u, turnP E S.r c = u := ⟨_, rfl⟩
          rw [hu] at hout
          have HU : Hid (turnP E S.r c = u) := hu
          clear R1 S1 J2 E1 C1 P1 P2 G1 HS hE2 I1 Fr1 hch hcm Q1 hq hu hpop hm
          go_wp2_with fail
          refine (turn_w E hW.out wr own1 b x S.r c hc HR1.out HV1.out HT.out).mono ?_
          rintro e w3 ⟨rfl, h3⟩
          rw [HU.out] at h3 ⊢
          unfold trnV
          obtain ⟨own3, R3, S3⟩ := h3.out
          have HR3 : Hid (RR w3 own3 b x u.1) := R3
          have HS3 : Hid (RStep w own w3 own3 b x) := HS1.out.trans S3
          have HQ3 : Hid (QV w3 own3 b x w.heap.size (.slice (some ⟨g, o, none⟩) (m + 1) cap) (t.reverse ++ [c])) := HQ1.out.step S3
          have HP3 : Hid (QV w3 own3 b x w.heap.size (.slice (some ⟨g, o, none⟩) m cap) t.reverse) := HQP.out.step S3
          clear R3 S3 h3 HR1 HS1 HQ1 HQP HV1 hcell
          rcases hout with ⟨ht, hf⟩ | ⟨ht, oo, ho, ho48, hf⟩
          · rw [ht]
            have HFF : Hid (stackF E S = ⟨t, u.1⟩) := hf
            clear ht hf
            go_wp2_with fail
            go_roundg (sPot (stackF E S))
            case rel =>
              refine ⟨_, own3, n + 2, ?_, HS3.out, ?_, HJ2.out, HE2.out, ?_, ?_, rfl⟩
              · rw [HFF.out]; exact HR3.out
              · rw [HFF.out]; exact HP3.out
              · rw [HFF.out]; show Cnt (n + 2) u.1; rw [← HU.out]; exact HC1.out.turn HSW.out
              · have h1 := HP1.out; have h2 := HP2.out; clear hcap; omega
            case measure => have h1 := HG.out; have h2 := HP2.out; clear hcap; omega
          · rw [ht, ho]
            have HFF : Hid (stackF E S = ⟨oo :: c :: t, u.1⟩) := hf
            clear ht hf
            go_wp2_with (at_builtin; go_must (refine wpList_append_sl (w := _) rfl _ _ 56 rfl 3 i0 _ 1 8 Tryz.underlying56 hi hz0 hz1 hz2 rfl _ _ _ rfl (HQ3.out.sl.kept ?c0) ⟨w3.heap.size, 0, none⟩ 1 1 [.int .i64 oo] rfl (by decide) rfl ?c1 ?c2 ?c3 ?c4 ?_))
            case c0 => intro g hg; exact Below.heap_alloc _ _ _ (HQ3.out.sl.lt g hg)
            case c1 =>
              intro k u hk
              match k, hk with
              | 0, hk => simp at hk; subst hk; simp [Addr.add]
              | k + 1, hk => simp at hk
            case c2 => intro u hu; simp at hu; subst hu; rfl
            case c3 => have h1 := HLN.out; have h2 := HM.out; clear hcap; rw [List.length_append, List.length_singleton, h2]; unfold maxLen; omega
            case c4 => have h1 := HLN.out; have h2 := HM.out; clear hcap; rw [List.length_append, List.length_singleton, h2]; omega
            intro v' w5 hsl hgr hob
            have HN : Hid (StS E val S0 Cl X w own b x r1 j ⟨[], r2⟩ (sPot (stackF E S)) v' (stackF E S) w5) := by
              obtain ⟨own2, R5, Q5, S5⟩ := HR3.out.queue (q' := (t.reverse ++ [c]) ++ [oo]) HQ3.out HS3.out (Nat.le_refl _) HS3.out.size hR.out.xlt (bl1 w3 _) hgr (hob.imp id fun h => ⟨_, Nat.le_succ _, h.1⟩) (by
                simpa [intV] using hsl)
              refine ⟨own2, n + 2, ?_, S5, ?_, HJ2.out, HE2.out, ?_, ?_, rfl⟩
              · rw [HFF.out]; exact R5
              · rw [HFF.out]
                show QV w5 own2 b x w.heap.size v' (oo :: c :: t).reverse
                rw [List.reverse_cons, List.reverse_cons]; exact Q5
              · rw [HFF.out]; show Cnt (n + 2) u.1; rw [← HU.out]; exact HC1.out.turn HSW.out
              · have h1 := HP1.out; have h2 := HP2.out; clear hcap; omega
            clear hsl hgr hob HR3 HS3 HQ3 HFF HP3
            go_wp2_with fail
            go_roundg (sPot (stackF E S))
            case rel => exact ⟨_, HN⟩
            case measure => have h1 := HG.out; have h2 := HP2.out; clear hcap; omega
    · have hge : ¬ (j : Int) < 48 := by omega
      have hj48 : j = 48 := by have := HJ.out; omega
      have HFIN : Hid (RS w own b x wr rf) := by
        obtain ⟨own1, n, r1, R1, S1, _, _, _, Su1, _⟩ := HQ.out
        rw [hj48] at Su1
        have : rf = r1 := Su1
        rw [this]
        exact ⟨own1, R1, S1⟩
      clear HQ hj HJ hj48
      go_wp2_with fail
      refine bodyPost_end (results_none rfl _ _ _) rfl ?_
      exact ⟨rfl, HFIN⟩
end
end Go.Proofs.YtiocnfambeochaaGreatDoor
