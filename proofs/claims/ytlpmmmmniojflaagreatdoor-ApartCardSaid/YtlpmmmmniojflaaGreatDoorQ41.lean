/- Texts put together. -/
import Derived.Test.YtlpmmmmniojflaaGreatDoorQ40
import Derived.Deep.CutRange
import Derived.Test.YtlpmmmmniojflaaGreatDoorUe
/- A working out, walked: restart. -/
set_option linter.unusedVariables false
set_option linter.unusedSimpArgs false
namespace Go.Proofs.YtlpmmmmniojflaaGreatDoor
open Go.RowKit
theorem QV.nil (w : World) (own : Nat → Nat) (b x lim : Nat) : QV w own b x lim (.slice none 0 0) [] := ⟨slc_nil w 3 1, fun g hg => by cases hg⟩
theorem QV.head {w : World} {own : Nat → Nat} {b x lim : Nat} {v : Value} {c : Nat} {t : List Nat} (h : QV w own b x lim v (c :: t)) : ∃ g o cap, v = .slice (some ⟨g, o, none⟩) (t.length + 1) cap ∧ t.length + 1 ≤ cap ∧ cap ≤ maxLen ∧ w.cell? ⟨g, o, none⟩ = some (.int .i64 c) ∧
    ∀ nv, (nv = .slice (some ⟨g, o + 1, none⟩) t.length (cap - 1) ∨ (cap = 1 ∧ nv = .slice (some ⟨g, o, none⟩) 0 0)) → QV w own b x lim nv t := by
  have hs := h.sl
  rcases hs.2 with ⟨_, h0⟩ | ⟨g, o, cap, cur, hv, hg, hn, hm, hsz, ht⟩
  · simp at h0
  · subst hv
    refine ⟨g, o, cap, rfl, hn, hm, ?_, ?_⟩
    · have := Slc.cell hs 0 (.int .i64 c) rfl
      exact this
    · rintro nv (rfl | ⟨hc1, rfl⟩)
      · refine ⟨⟨by simp, .inr ⟨g, o + 1, cap - 1, cur, rfl, hg, ?_, by omega, ?_, ?_⟩⟩, fun g' hg' => h.o g' hg'⟩
        · simp at hn; omega
        · simp at hn; omega
        · rw [show cur.toList.drop (o + 1) = (cur.toList.drop o).drop 1 by rw [List.drop_drop], show t.length * 1 = (t.length + 1) * 1 - 1 by omega, ← List.drop_take]
          have e : List.take ((t.length + 1) * 1) (cur.toList.drop o) = (c :: t).map intV := ht
          rw [e]; rfl
      · have ht0 : t = [] := by
          cases t with
          | nil => rfl
          | cons a t => simp at hn; omega
        subst ht0
        exact ⟨⟨by simp, .inr ⟨g, o, 0, cur, rfl, hg, Nat.le_refl _, Nat.zero_le _, by omega, by simp⟩⟩, fun g' hg' => h.o g' hg'⟩
theorem QV.below {w w' : World} {own : Nat → Nat} {b x lim : Nat} {v : Value} {q : List Nat} (h : QV w own b x lim v q) (hb : Below w.heap.size w w') : QV w' own b x lim v q := ⟨h.sl.kept fun g hg => hb.block g (h.sl.lt g hg), h.o⟩
theorem QV.len {w : World} {own : Nat → Nat} {b x lim : Nat} {v : Value} {q : List Nat} (h : QV w own b x lim v q) : ∃ a cp, v = .slice a q.length cp := h.sl.len
theorem info3b : (Tryz.prog.info? 3).map (fun i => (i.zero, i.size, i.bytes)) = some (some (.int .i64 0), 1, 8) := by kernel_rfl
def QF (w : World) (own : Nat → Nat) (b x : Nat) (r0 : Rn) (v : Value) (q : List Nat) (wr : World) : Prop :=
  ∃ own1, RR wr own1 b x r0 ∧ RStep w own wr own1 b x ∧ QV wr own1 b x w.heap.size v q
def QuS (E : Env) (val : Nat → V) (S0 : Con) (Cl : Nat → Prop) (X : Nat → Ans → Prop) (w : World) (own : Nat → Nat) (b x : Nat) (r0 : Rn) (fin : QS) (g : Nat) (v : Value) (s : QS) (wr : World) : Prop :=
  ∃ own1 n, RR wr own1 b x s.r ∧ RStep w own wr own1 b x ∧ QV wr own1 b x w.heap.size v s.q ∧ QJ E val S0 Cl X r0 s ∧ Ends (queueF E) queueE s fin ∧ Cnt n s.r ∧ n + 2 * qPot s ≤ 10000 ∧ g = qM s
section
variable {E : Env} {val : Nat → V} {S0 : Con} {Cl : Nat → Prop} {X : Nat → Ans → Prop}
set_option maxRecDepth 100000 in
set_option maxHeartbeats 4000000 in
theorem restart_w (hW : Hid (RightW E)) (hX : Hid (XK E val S0 Cl X)) (w : World) (own : Nat → Nat) (b x : Nat) (r0 : Rn) (fin : QS) (hR : Hid (RR w own b x r0)) (hV : Hid (EVc w own)) (hF : Hid (EnvF E r0.fs)) (hJ : Hid (QJ E val S0 Cl X r0 ⟨List.range 48, r0⟩)) (hE : Hid (Ends (queueF E) queueE ⟨List.range 48, r0⟩ fin)) (hC : Hid (Cnt 0 r0)) :
    Calls Tryz.prog 85 #[.pointer (some ⟨b, 0, none⟩)] w fun e w' => e = .returned (.tuple #[]) ∧ Hid (RS w own b x w' fin.r) := by
  obtain ⟨i0, hi, hii⟩ := Option.map_eq_some_iff.1 info3b
  have hz0 : i0.zero = some (.int .i64 0) := congrArg (fun t => t.1) hii
  have hz1 : i0.size = 1 := congrArg (fun t => t.2.1) hii
  have hz2 : i0.bytes = 8 := congrArg (fun t => t.2.2) hii
  clear hii
  go_enter Tryz.func85, Tryz.ntmps85
  go_wp2_with fail
  go_loopw [2, 7] (fun v s wr => ∃ j : Nat, s = .int .i64 j ∧ Hid (j ≤ 48) ∧ Hid (QF w own b x r0 v (List.range j) wr)) (fun _ s _ => (48 - intOf s).toNat)
  case atStart => exact ⟨0, rfl, Nat.zero_le _, own, hR.out, RStep.refl _ _ _ _, QV.nil _ _ _ _ _⟩
  case round =>
    obtain ⟨j, rfl, HJ, HQ⟩ := hrel
    by_cases hj : j < 48
    · have hji : (j : Int) < 48 := by omega
      have w1' : IntKind.i64.wrap ((j : Int) + 1) = (j : Int) + 1 := by rw [IntKind.wrap_i64]; omega
      have w2' : wrap64 ((j : Int) + 1) = (j : Int) + 1 := by unfold wrap64; omega
      obtain ⟨own1, R1, S1, Q1⟩ := HQ.out
      have HR1 : Hid (RR wr own1 b x r0) := R1
      have HS1 : Hid (RStep w own wr own1 b x) := S1
      have HQ1 : Hid (QV wr own1 b x w.heap.size u2 (List.range j)) := Q1
      have HJ' : Hid (j < 48) := hj
      clear R1 S1 Q1 HQ hj
      go_wp2_with (at_builtin; go_must (refine wpList_append_sl (w := _) rfl _ _ 56 rfl 3 i0 _ 1 8 Tryz.underlying56 hi hz0 hz1 hz2 rfl _ _ _ rfl (HQ1.out.sl.kept ?c0) ⟨wr.heap.size, 0, none⟩ 1 1 [.int .i64 j] rfl (by decide) rfl ?c1 ?c2 ?c3 ?c4 ?_))
      case c0 => intro g hg; exact Below.heap_alloc _ _ _ (HQ1.out.sl.lt g hg)
      case c1 =>
        intro k u hk
        match k, hk with
        | 0, hk => simp at hk; subst hk; simp [Addr.add]
        | k + 1, hk => simp at hk
      case c2 => intro u hu; simp at hu; subst hu; rfl
      case c3 => have := HJ'.out; unfold maxLen; simp; omega
      case c4 => have := HJ'.out; simp; omega
      intro v' w2 hsl hgr hob
      have HN : Hid (QF w own b x r0 v' (List.range (j + 1)) w2) := by
        obtain ⟨own2, R2, Q2, S2⟩ := HR1.out.queue (q' := List.range (j + 1)) HQ1.out HS1.out (Nat.le_refl _) HS1.out.size hR.out.xlt (bl1 wr _) hgr (hob.imp id fun h => ⟨_, Nat.le_succ _, h.1⟩) (by
          rw [List.range_succ, List.length_append, List.map_append, List.length_range]; exact hsl)
        exact ⟨own2, R2, S2, Q2⟩
      clear hsl hgr hob HR1 HS1 HQ1
      go_wp2_with fail
      go_roundw
      case rel => exact ⟨j + 1, by go_num, HJ'.out, HN⟩
      case measure => simp [intOf]; omega
    · have hge : ¬ (j : Int) < 48 := by omega
      have hj48 : j = 48 := by have := HJ.out; omega
      rw [hj48] at HQ
      have HQS : Hid (QuS E val S0 Cl X w own b x r0 fin (qM ⟨List.range 48, r0⟩) u2 ⟨List.range 48, r0⟩ wr) := by
        obtain ⟨own1, R1, S1, Q1⟩ := HQ.out
        refine ⟨own1, 0, R1, S1, Q1, hJ.out, hE.out, hC.out, ?_, rfl⟩
        have := msr_le r0
        unfold qPot
        simp; omega
      clear HQ hj HJ hj48
      go_wp2_with fail
      go_loopg [2] (qM ⟨List.range 48, r0⟩) (fun g v wr => ∃ S : QS, Hid (QuS E val S0 Cl X w own b x r0 fin g v S wr))
      case atStart => exact ⟨_, HQS⟩
      case round =>
        clear HQS hge
        obtain ⟨S, HS⟩ := hrel
        obtain ⟨own1, n, R1, S1, Q1, J1, E1, C1, P1, G1⟩ := HS.out
        have HG : Hid (gk = qM S) := G1
        have HR1 : Hid (RR wr own1 b x S.r) := R1
        have HS1 : Hid (RStep w own wr own1 b x) := S1
        cases hq : S.q with
        | nil =>
          have hfin : fin = S := E1.now (by unfold queueE; rw [hq]; rfl)
          have HFIN : Hid (RS w own b x wr fin.r) := by rw [hfin]; exact ⟨own1, R1, S1⟩
          rw [hq] at Q1
          obtain ⟨qa, qc, rfl⟩ := Q1.len
          clear R1 S1 Q1 J1 E1 C1 P1 G1 HS hq hfin HR1 HS1
          dsimp only [List.length_nil]
          go_wp2_with fail
          refine bodyPost_end (results_none rfl _ _ _) rfl ?_
          exact ⟨rfl, HFIN⟩
        | cons c t =>
          have hch : queueE S = false := by unfold queueE; rw [hq]; rfl
          obtain ⟨⟨J2, P2⟩, c', t', hq', hc, hout⟩ := queue_step hW.out hX.out J1 hch
          rw [hq] at hq'
          cases hq'
          have hE2 := E1.next hch
          obtain ⟨⟨cs1, I1⟩, Fr1, _, HL48, _⟩ := J1
          rw [hq] at Q1 HL48
          obtain ⟨g, o, cap, rfl, hcap, hcm, hcell, htail⟩ := Q1.head
          have HT : Hid (TurnOK E S.r c) := I1.turnOK hW.out hX.out (by rw [Fr1.fs]; exact hF.out) C1 (by omega)
          have HWT : Hid (WtOK S.r) := I1.wtOK
          have HSW : Hid (S.r.store.kept.length = 64) := I1.sw.len
          have HJ2 : Hid (QJ E val S0 Cl X r0 (queueF E S)) := J2
          have HP2 : Hid (qM (queueF E S) < qM S) := P2
          have HE2 : Hid (Ends (queueF E) queueE (queueF E S) fin) := hE2
          have HC1 : Hid (Cnt n S.r) := C1
          have HP1 : Hid (n + 2 * qPot S ≤ 10000) := P1
          have HV1 : Hid (EVc wr own1) := hV.out.step hR.out S1
          have HLN : Hid (t.length ≤ 47) := by rw [List.length_cons] at HL48; unfold Hid; omega
          have HCM : Hid (t.length + 1 ≤ cap ∧ cap ≤ maxLen) := ⟨hcap, hcm⟩
          obtain ⟨nv, hnv⟩ : ∃ nv, nv = if cap = 1 then Value.slice (some ⟨g, o, none⟩) 0 0 else Value.slice (some ⟨g, o + 1, none⟩) t.length (cap - 1) := ⟨_, rfl⟩
          have HQT : Hid (QV wr own1 b x w.heap.size nv t) := htail nv (by
            rw [hnv]
            by_cases h1 : cap = 1
            · rw [if_pos h1]; exact .inr ⟨h1, rfl⟩
            · rw [if_neg h1]; exact .inl rfl)
          have HPT : Hid (qPot S = msr S.r + (t.length + 1)) := by unfold Hid qPot; rw [hq, List.length_cons]
          clear R1 S1 J2 E1 C1 P1 P2 G1 HS hE2 I1 Fr1 hch htail HL48 hcap hcm Q1 hq
          obtain ⟨u, hu⟩ : ∃ u, turnP E S.r c = u := ⟨_, rfl⟩
          rw [hu] at hout
          have HU : Hid (turnP E S.r c = u) := hu
          obtain ⟨B, hB⟩ : ∃ B, stillB S.r c = B := ⟨_, rfl⟩
          rw [hB] at hout
          have HB : Hid (stillB S.r c = B) := hB
          have HNV : Hid (nv = if cap = 1 then Value.slice (some ⟨g, o, none⟩) 0 0 else Value.slice (some ⟨g, o + 1, none⟩) t.length (cap - 1)) := hnv
          clear hu hB hnv
          go_upto_region 8 with fail
          go_cut [2] from 15 to 44 (fun s wx => nv = s ∧ wr = wx)
          case first =>
            have h1 := HCM.out
            by_cases hc1 : cap = 1
            · have ht0 : t.length = 0 := by omega
              subst hc1
              rw [ht0]
              go_wp2_with fail
              go_meet
              rw [HNV.out]
              simp
            · have hle : (1 : Int) ≤ (t.length : Int) + 1 := by omega
              have hle2 : 1 ≤ t.length + 1 := by omega
              go_wp2_with fail
              go_meet
              rw [HNV.out, if_neg hc1]
              exact ⟨rfl, rfl⟩
          case rest =>
            obtain ⟨rfl, rfl⟩ := hcut
            clear HNV HCM hcell
            go_wp2_with fail
            refine (still_w _ own1 b x S.r c hc HR1 HWT).mono ?_
            rintro e w2 ⟨rfl, hb2⟩
            obtain ⟨R2, S2⟩ := HR1.out.below (own' := own1) hb2 (fun _ _ => rfl)
            have HR2 : Hid (RR w2 own1 b x S.r) := R2
            have HS2 : Hid (RStep w own w2 own1 b x) := HS1.out.trans S2
            have HQ2 : Hid (QV w2 own1 b x w.heap.size nv t) := HQT.out.below hb2
            have HV2 : Hid (EVc w2 own1) := hV.out.step hR.out HS2.out
            rw [HB.out]
            clear R2 S2 hb2 HR1 HS1 HQT HV1
            rcases hout with ⟨rfl, hf⟩ | ⟨rfl, hf, hpot⟩
            · have HFF : Hid (queueF E S = ⟨t ++ [c], S.r⟩) := hf
              clear hf
              go_wp2_with (at_builtin; go_must (refine wpList_append_sl (w := _) rfl _ _ 56 rfl 3 i0 _ 1 8 Tryz.underlying56 hi hz0 hz1 hz2 rfl _ _ _ rfl (HQ2.out.sl.kept ?c0) ⟨w2.heap.size, 0, none⟩ 1 1 [.int .i64 c] rfl (by decide) rfl ?c1 ?c2 ?c3 ?c4 ?_))
              case c0 => intro g hg; exact Below.heap_alloc _ _ _ (HQ2.out.sl.lt g hg)
              case c1 =>
                intro k u hk
                match k, hk with
                | 0, hk => simp at hk; subst hk; simp [Addr.add]
                | k + 1, hk => simp at hk
              case c2 => intro u hu; simp at hu; subst hu; rfl
              case c3 => have := HLN.out; unfold maxLen; omega
              case c4 => have := HLN.out; omega
              intro v' w3 hsl hgr hob
              have HN : Hid (QuS E val S0 Cl X w own b x r0 fin (qM (queueF E S)) v' (queueF E S) w3) := by
                obtain ⟨own2, R3, Q3, S3⟩ := HR2.out.queue (q' := t ++ [c]) HQ2.out HS2.out (Nat.le_refl _) HS2.out.size hR.out.xlt (bl1 w2 _) hgr (hob.imp id fun h => ⟨_, Nat.le_succ _, h.1⟩) (by
                  rw [List.length_append, List.map_append]; exact hsl)
                refine ⟨own2, n, ?_, S3, ?_, HJ2.out, HE2.out, ?_, ?_, rfl⟩
                · rw [HFF.out]; exact R3
                · rw [HFF.out]; exact Q3
                · rw [HFF.out]; exact HC1.out
                · have h1 := HP1.out
                  have h2 := HPT.out
                  rw [HFF.out]
                  show n + 2 * (msr S.r + (t ++ [c]).length) ≤ 10000
                  rw [List.length_append, List.length_singleton]; omega
              clear hsl hgr hob HR2 HS2 HQ2 HFF
              go_wp2_with fail
              go_roundg (qM (queueF E S))
              case rel => exact ⟨_, HN⟩
              case measure => have := HG.out; have := HP2.out; omega
            · have HPO : Hid (qPot (queueF E S) < qPot S) := hpot
              clear hpot
              go_wp2_with fail
              refine (turn_w E hW.out w2 own1 b x S.r c hc HR2.out HV2.out HT.out).mono ?_
              rintro e w3 ⟨rfl, h3⟩
              rw [HU.out] at h3 ⊢
              unfold trnV
              obtain ⟨own3, R3, S3⟩ := h3.out
              have HR3 : Hid (RR w3 own3 b x u.1) := R3
              have HS3 : Hid (RStep w own w3 own3 b x) := HS2.out.trans S3
              have HQ3 : Hid (QV w3 own3 b x w.heap.size nv t) := HQ2.out.step S3
              clear R3 S3 h3 HR2 HS2 HQ2 HV2
              rcases hf with ⟨ht, hf⟩ | ⟨ht, hf⟩
              · rw [ht]
                have HFF : Hid (queueF E S = ⟨t, u.1⟩) := hf
                clear ht hf
                go_wp2_with fail
                go_roundg (qM (queueF E S))
                case rel =>
                  refine ⟨_, own3, n + 2, ?_, HS3.out, ?_, HJ2.out, HE2.out, ?_, ?_, rfl⟩
                  · rw [HFF.out]; exact HR3.out
                  · rw [HFF.out]; exact HQ3.out
                  · rw [HFF.out]; show Cnt (n + 2) u.1; rw [← HU.out]; exact HC1.out.turn HSW.out
                  · have := HP1.out; have := HPO.out; omega
                case measure => have := HG.out; have := HP2.out; omega
              · rw [ht]
                have HFF : Hid (queueF E S = ⟨t ++ [c], leaveP u.1 c⟩) := hf
                clear ht hf
                go_wp2_with fail
                refine (leave_w w3 own3 b x u.1 c hc HR3).mono ?_
                rintro e w4 ⟨rfl, h4⟩
                obtain ⟨own4, R4, S4⟩ := h4.out
                have HR4 : Hid (RR w4 own4 b x (leaveP u.1 c)) := R4
                have HS4 : Hid (RStep w own w4 own4 b x) := HS3.out.trans S4
                have HQ4 : Hid (QV w4 own4 b x w.heap.size nv t) := HQ3.out.step S4
                clear R4 S4 h4 HR3 HS3 HQ3
                go_wp2_with (at_builtin; go_must (refine wpList_append_sl (w := _) rfl _ _ 56 rfl 3 i0 _ 1 8 Tryz.underlying56 hi hz0 hz1 hz2 rfl _ _ _ rfl (HQ4.out.sl.kept ?c0) ⟨w4.heap.size, 0, none⟩ 1 1 [.int .i64 c] rfl (by decide) rfl ?c1 ?c2 ?c3 ?c4 ?_))
                case c0 => intro g hg; exact Below.heap_alloc _ _ _ (HQ4.out.sl.lt g hg)
                case c1 =>
                  intro k u hk
                  match k, hk with
                  | 0, hk => simp at hk; subst hk; simp [Addr.add]
                  | k + 1, hk => simp at hk
                case c2 => intro u hu; simp at hu; subst hu; rfl
                case c3 => have := HLN.out; unfold maxLen; omega
                case c4 => have := HLN.out; omega
                intro v' w5 hsl hgr hob
                have HN : Hid (QuS E val S0 Cl X w own b x r0 fin (qM (queueF E S)) v' (queueF E S) w5) := by
                  obtain ⟨own2, R5, Q5, S5⟩ := HR4.out.queue (q' := t ++ [c]) HQ4.out HS4.out (Nat.le_refl _) HS4.out.size hR.out.xlt (bl1 w4 _) hgr (hob.imp id fun h => ⟨_, Nat.le_succ _, h.1⟩) (by
                    rw [List.length_append, List.map_append]; exact hsl)
                  refine ⟨own2, n + 2, ?_, S5, ?_, HJ2.out, HE2.out, ?_, ?_, rfl⟩
                  · rw [HFF.out]; exact R5
                  · rw [HFF.out]; exact Q5
                  · rw [HFF.out]; show Cnt (n + 2) (leaveP u.1 c); rw [← HU.out]; exact (HC1.out.turn HSW.out).leave c
                  · have := HP1.out; have := HPO.out; omega
                clear hsl hgr hob HR4 HS4 HQ4 HFF
                go_wp2_with fail
                go_roundg (qM (queueF E S))
                case rel => exact ⟨_, HN⟩
                case measure => have := HG.out; have := HP2.out; omega
end
end Go.Proofs.YtlpmmmmniojflaaGreatDoor
/- A working out, walked: suspend. -/
set_option linter.unusedVariables false
set_option linter.unusedSimpArgs false
namespace Go.Proofs.YtlpmmmmniojflaaGreatDoor
open Go.RowKit
theorem QV.last {w : World} {own : Nat → Nat} {b x lim : Nat} {v : Value} {c : Nat} {t : List Nat} (h : QV w own b x lim v (t ++ [c])) : ∃ g o cap, v = .slice (some ⟨g, o, none⟩) (t.length + 1) cap ∧ t.length + 1 ≤ cap ∧ cap ≤ maxLen ∧ w.cell? ⟨g, o + t.length, none⟩ = some (.int .i64 c) ∧
    QV w own b x lim (.slice (some ⟨g, o, none⟩) t.length cap) t := by
  have hs := h.sl
  rw [List.length_append, List.length_singleton] at hs
  rcases hs.2 with ⟨_, h0⟩ | ⟨g, o, cap, cur, hv, hg, hn, hm, hsz, ht⟩
  · omega
  · subst hv
    refine ⟨g, o, cap, rfl, hn, hm, ?_, ?_⟩
    · have := Slc.cell hs t.length (.int .i64 c) (by rw [List.map_append, List.getElem?_append_right (by simp)]; simp [intV])
      exact this
    · refine ⟨?_, fun g' hg' => h.o g' hg'⟩
      have := hs.cut (m := t.length) (by omega)
      rw [List.map_append, List.take_append_of_le_length (by simp), List.take_of_length_le (by simp)] at this
      exact this
theorem small_nums {m cap : Nat} (h : m ≤ 9999) (hc : m + 1 ≤ cap) : IntKind.i64.wrap (m : Int) = m ∧ wrap64 (m : Int) = m ∧ (m : Int) < (m : Int) + 1 ∧ 0 ≤ (m : Int) ∧ (m : Int) ≤ (cap : Int) ∧ 0 < (m : Int) + 1 ∧ m ≤ cap ∧ 0 < m + 1 :=
  ⟨by rw [IntKind.wrap_i64]; omega, by unfold wrap64; omega, by omega, by omega, by omega, by omega, by omega, by omega⟩
def StS (E : Env) (val : Nat → V) (S0 : Con) (Cl : Nat → Prop) (X : Nat → Ans → Prop) (w : World) (own : Nat → Nat) (b x : Nat) (r1 : Rn) (c0 : Nat) (fin : QS) (g : Nat) (v : Value) (s : QS) (wr : World) : Prop :=
  ∃ own1 n, RR wr own1 b x s.r ∧ RStep w own wr own1 b x ∧ QV wr own1 b x w.heap.size v s.q.reverse ∧ SJ E val S0 Cl X r1 c0 s ∧ Ends (stackF E) queueE s fin ∧ Cnt n s.r ∧ n + 2 * (sPot s + (47 - c0)) ≤ 10000 ∧ g = sPot s
def SuS (E : Env) (val : Nat → V) (S0 : Con) (Cl : Nat → Prop) (X : Nat → Ans → Prop) (w : World) (own : Nat → Nat) (b x : Nat) (r0 rf : Rn) (j : Nat) (wr : World) : Prop :=
  ∃ own1 n r1, RR wr own1 b x r1 ∧ RStep w own wr own1 b x ∧ (∃ cs, Inv E val S0 Cl X r1 cs) ∧ r1.fs = r0.fs ∧ (∀ x, waitB r1 x = false) ∧ Sus E (48 - j) j r1 rf ∧ Cnt n r1 ∧ n + 2 * (2 * msr r1 + (48 - j)) ≤ 10000
section
variable {E : Env} {val : Nat → V} {S0 : Con} {Cl : Nat → Prop} {X : Nat → Ans → Prop}
set_option maxRecDepth 100000 in
set_option maxHeartbeats 4000000 in
theorem suspend_w (hW : Hid (RightW E)) (hX : Hid (XK E val S0 Cl X)) (w : World) (own : Nat → Nat) (b x : Nat) (r0 rf : Rn) (hR : Hid (RR w own b x r0)) (hV : Hid (EVc w own)) (hF : Hid (EnvF E r0.fs)) (hI : Hid (∃ cs, Inv E val S0 Cl X r0 cs)) (hN : Hid (∀ x, waitB r0 x = false)) (hS : Hid (Sus E 48 0 r0 rf)) (hC : Hid (Cnt 0 r0)) :
    Calls Tryz.prog 86 #[.pointer (some ⟨b, 0, none⟩)] w fun e w' => e = .returned (.tuple #[]) ∧ Hid (RS w own b x w' rf) := by
  obtain ⟨i0, hi, hii⟩ := Option.map_eq_some_iff.1 info3b
  have hz0 : i0.zero = some (.int .i64 0) := congrArg (fun t => t.1) hii
  have hz1 : i0.size = 1 := congrArg (fun t => t.2.1) hii
  have hz2 : i0.bytes = 8 := congrArg (fun t => t.2.2) hii
  have HS0 : Hid (SuS E val S0 Cl X w own b x r0 rf 0 w) := ⟨own, 0, r0, hR.out, RStep.refl _ _ _ _, hI.out, rfl, hN.out, hS.out, hC.out, by have := msr_le r0; omega⟩
  clear hii hI hN hS hC
  go_enter Tryz.func86, Tryz.ntmps86
  go_wp2_with fail
  go_loopw [6] (fun s wr => ∃ j : Nat, s = .int .i64 j ∧ Hid (j ≤ 48) ∧ Hid (SuS E val S0 Cl X w own b x r0 rf j wr)) (fun s _ => (48 - intOf s).toNat)
  case atStart => exact ⟨0, rfl, Nat.zero_le _, HS0⟩
  case round =>
    clear HS0
    obtain ⟨j, rfl, HJ, HQ⟩ := hrel
    by_cases hj : j < 48
    · have hji : (j : Int) < 48 := by omega
      have w1' : IntKind.i64.wrap ((j : Int) + 1) = (j : Int) + 1 := by rw [IntKind.wrap_i64]; omega
      have w2' : wrap64 ((j : Int) + 1) = (j : Int) + 1 := by unfold wrap64; omega
      obtain ⟨own1, n, r1, R1, S1, ⟨cs1, I1⟩, Fs1, N1, Su1, C1, P1⟩ := HQ.out
      obtain ⟨k, hk⟩ : ∃ k, 48 - j = k + 1 := ⟨47 - j, by omega⟩
      rw [hk] at Su1
      obtain ⟨r2, E2, Su2⟩ := Su1
      obtain ⟨RA, SA⟩ := R1.below (own' := ext own1 wr.heap.size) (bl1 wr (.cells #[.int .i64 j] 3)) ext_old
      have HST : Hid (StS E val S0 Cl X w own b x r1 j ⟨[], r2⟩ (sPot ⟨[j], r1⟩) (.slice (some ⟨wr.heap.size, 0, none⟩) 1 1) ⟨[j], r1⟩ (wr.alloc (.cells #[.int .i64 j] 3))) := by
        refine ⟨_, n, RA, S1.trans SA, ⟨⟨rfl, .inr ⟨wr.heap.size, 0, 1, #[.int .i64 j], rfl, rnew wr _ _, Nat.le_refl _, by unfold maxLen; omega, Nat.le_refl _, rfl⟩⟩, fun g hg => ?_⟩, stack_start hj I1 N1, E2, C1, ?_, rfl⟩
        · cases hg
          exact ⟨S1.size, ext_new (Nat.le_refl _), (fun e => by have h1 := R1.lt; have e : wr.heap.size = b := e; omega), (fun e => by have h1 := R1.xlt; have e : wr.heap.size = x := e; omega)⟩
        · show n + 2 * (2 * msr r1 + 1 + (47 - j)) ≤ 10000
          omega
      have HSU : Hid (Sus E k (j + 1) r2 rf) := Su2
      have HK : Hid (48 - j = k + 1) := hk
      have HFS : Hid (r1.fs = r0.fs) := Fs1
      have HJ' : Hid (j < 48) := hj
      clear R1 S1 I1 Fs1 N1 E2 Su2 C1 P1 hk RA SA HQ hj
      go_wp2_with fail
      generalize wr.alloc (Obj.cells #[.int .i64 j] 3) = WA at *
      go_loopg [3] (sPot ⟨[j], r1⟩) (fun g v wr => ∃ S : QS, Hid (StS E val S0 Cl X w own b x r1 j ⟨[], r2⟩ g v S wr))
      case atStart => exact ⟨_, HST⟩
      case round =>
        clear HST
        obtain ⟨S, HS⟩ := hrel
        obtain ⟨own1, n, R1, S1, Q1, J1, E1, C1, P1, G1⟩ := HS.out
        have HG : Hid (gk = sPot S) := G1
        have HR1 : Hid (RR _ own1 b x S.r) := R1
        have HS1 : Hid (RStep w own _ own1 b x) := S1
        cases hq : S.q with
        | nil =>
          have hfin : ⟨[], r2⟩ = S := E1.now (by unfold queueE; rw [hq]; rfl)
          rw [← hfin] at J1 R1 P1 C1
          obtain ⟨i1, i2, i3, i4⟩ := J1.fin
          have HNX : Hid (SuS E val S0 Cl X w own b x r0 rf (j + 1) wr) := by
            refine ⟨own1, n, r2, R1, S1, i1, i2.fs.trans HFS.out, i4, ?_, C1, ?_⟩
            · have := HK.out; have h2 := HSU.out; rw [show 48 - (j + 1) = k by omega]; exact h2
            · have h1 : n + 2 * (2 * msr r2 + 0 + (47 - j)) ≤ 10000 := P1
              omega
          rw [hq] at Q1
          obtain ⟨qa, qc, rfl⟩ := Q1.len
          clear R1 S1 Q1 J1 E1 C1 P1 G1 HS hq hfin HR1 HS1 i1 i2 i3 i4
          dsimp only [List.length_nil, List.reverse_nil]
          go_wp2_with fail
          go_roundw
          case rel => exact ⟨j + 1, by go_num, HJ'.out, HNX⟩
          case measure => simp [intOf]; omega
        | cons c t =>
          have hch : queueE S = false := by unfold queueE; rw [hq]; rfl
          obtain ⟨⟨J2, P2⟩, c', t', hq', hc, hout⟩ := stackJ_step hW.out hX.out J1 hch
          rw [hq] at hq'
          cases hq'
          have hE2 := E1.next hch
          obtain ⟨⟨cs1, I1⟩, _, Fr1, _⟩ := J1
          rw [hq, List.reverse_cons] at Q1
          obtain ⟨g, o, cap, rfl, hcap, hcm, hcell, hpop⟩ := Q1.last
          have HT : Hid (TurnOK E S.r c) := I1.turnOK hW.out hX.out (by rw [Fr1.fs, HFS.out]; exact hF.out) C1 (by omega)
          have HSW : Hid (S.r.store.kept.length = 64) := I1.sw.len
          have HJ2 : Hid (SJ E val S0 Cl X r1 j (stackF E S)) := J2
          have HP2 : Hid (sPot (stackF E S) < sPot S) := P2
          have HE2 : Hid (Ends (stackF E) queueE (stackF E S) ⟨[], r2⟩) := hE2
          have HC1 : Hid (Cnt n S.r) := C1
          have HP1 : Hid (n + 2 * (sPot S + (47 - j)) ≤ 10000) := P1
          have HV1 : Hid (EVc wr own1) := hV.out.step hR.out S1
          have HLN : Hid (t.reverse.length ≤ 9999) := by
            unfold Hid
            have : sPot S = 2 * msr S.r + (t.length + 1) := by unfold sPot; rw [hq, List.length_cons]
            rw [List.length_reverse]; omega
          have HQP : Hid (QV wr own1 b x w.heap.size (.slice (some ⟨g, o, none⟩) t.reverse.length cap) t.reverse) := hpop
          have HQ1 : Hid (QV wr own1 b x w.heap.size (.slice (some ⟨g, o, none⟩) (t.reverse.length + 1) cap) (t.reverse ++ [c])) := Q1
          obtain ⟨m, hm⟩ : ∃ m, t.reverse.length = m := ⟨_, rfl⟩
          rw [hm] at hcell hcap HLN HQP HQ1 ⊢
          have hm9 := HLN.out
          have HM : Hid (t.reverse.length = m) := hm
          obtain ⟨m1, m2, m3, m4, m5, m6, m7, m8⟩ := small_nums hm9 hcap
          obtain ⟨u, hu⟩ : ∃ u, turnP E S.r c = u := ⟨_, rfl⟩
          rw [hu] at hout
          have HU : Hid (turnP E S.r c = u) := hu
          clear R1 S1 J2 E1 C1 P1 P2 G1 HS hE2 I1 Fr1 hch hcm Q1 hq hu hpop hm
          go_wp2_with fail
          refine (turn_w E hW.out wr own1 b x S.r c hc HR1.out HV1.out HT.out).mono ?_
          rintro e w3 ⟨rfl, h3⟩
          rw [HU.out] at h3 ⊢
          unfold trnV
          obtain ⟨own3, R3, S3⟩ := h3.out
          have HR3 : Hid (RR w3 own3 b x u.1) := R3
          have HS3 : Hid (RStep w own w3 own3 b x) := HS1.out.trans S3
          have HQ3 : Hid (QV w3 own3 b x w.heap.size (.slice (some ⟨g, o, none⟩) (m + 1) cap) (t.reverse ++ [c])) := HQ1.out.step S3
          have HP3 : Hid (QV w3 own3 b x w.heap.size (.slice (some ⟨g, o, none⟩) m cap) t.reverse) := HQP.out.step S3
          clear R3 S3 h3 HR1 HS1 HQ1 HQP HV1 hcell
          rcases hout with ⟨ht, hf⟩ | ⟨ht, oo, ho, ho48, hf⟩
          · rw [ht]
            have HFF : Hid (stackF E S = ⟨t, u.1⟩) := hf
            clear ht hf
            go_wp2_with fail
            go_roundg (sPot (stackF E S))
            case rel =>
              refine ⟨_, own3, n + 2, ?_, HS3.out, ?_, HJ2.out, HE2.out, ?_, ?_, rfl⟩
              · rw [HFF.out]; exact HR3.out
              · rw [HFF.out]; exact HP3.out
              · rw [HFF.out]; show Cnt (n + 2) u.1; rw [← HU.out]; exact HC1.out.turn HSW.out
              · have h1 := HP1.out; have h2 := HP2.out; clear hcap; omega
            case measure => have h1 := HG.out; have h2 := HP2.out; clear hcap; omega
          · rw [ht, ho]
            have HFF : Hid (stackF E S = ⟨oo :: c :: t, u.1⟩) := hf
            clear ht hf
            go_wp2_with (at_builtin; go_must (refine wpList_append_sl (w := _) rfl _ _ 56 rfl 3 i0 _ 1 8 Tryz.underlying56 hi hz0 hz1 hz2 rfl _ _ _ rfl (HQ3.out.sl.kept ?c0) ⟨w3.heap.size, 0, none⟩ 1 1 [.int .i64 oo] rfl (by decide) rfl ?c1 ?c2 ?c3 ?c4 ?_))
            case c0 => intro g hg; exact Below.heap_alloc _ _ _ (HQ3.out.sl.lt g hg)
            case c1 =>
              intro k u hk
              match k, hk with
              | 0, hk => simp at hk; subst hk; simp [Addr.add]
              | k + 1, hk => simp at hk
            case c2 => intro u hu; simp at hu; subst hu; rfl
            case c3 => have h1 := HLN.out; have h2 := HM.out; clear hcap; rw [List.length_append, List.length_singleton, h2]; unfold maxLen; omega
            case c4 => have h1 := HLN.out; have h2 := HM.out; clear hcap; rw [List.length_append, List.length_singleton, h2]; omega
            intro v' w5 hsl hgr hob
            have HN : Hid (StS E val S0 Cl X w own b x r1 j ⟨[], r2⟩ (sPot (stackF E S)) v' (stackF E S) w5) := by
              obtain ⟨own2, R5, Q5, S5⟩ := HR3.out.queue (q' := (t.reverse ++ [c]) ++ [oo]) HQ3.out HS3.out (Nat.le_refl _) HS3.out.size hR.out.xlt (bl1 w3 _) hgr (hob.imp id fun h => ⟨_, Nat.le_succ _, h.1⟩) (by
                simpa [intV] using hsl)
              refine ⟨own2, n + 2, ?_, S5, ?_, HJ2.out, HE2.out, ?_, ?_, rfl⟩
              · rw [HFF.out]; exact R5
              · rw [HFF.out]
                show QV w5 own2 b x w.heap.size v' (oo :: c :: t).reverse
                rw [List.reverse_cons, List.reverse_cons]; exact Q5
              · rw [HFF.out]; show Cnt (n + 2) u.1; rw [← HU.out]; exact HC1.out.turn HSW.out
              · have h1 := HP1.out; have h2 := HP2.out; clear hcap; omega
            clear hsl hgr hob HR3 HS3 HQ3 HFF HP3
            go_wp2_with fail
            go_roundg (sPot (stackF E S))
            case rel => exact ⟨_, HN⟩
            case measure => have h1 := HG.out; have h2 := HP2.out; clear hcap; omega
    · have hge : ¬ (j : Int) < 48 := by omega
      have hj48 : j = 48 := by have := HJ.out; omega
      have HFIN : Hid (RS w own b x wr rf) := by
        obtain ⟨own1, n, r1, R1, S1, _, _, _, Su1, _⟩ := HQ.out
        rw [hj48] at Su1
        have : rf = r1 := Su1
        rw [this]
        exact ⟨own1, R1, S1⟩
      clear HQ hj HJ hj48
      go_wp2_with fail
      refine bodyPost_end (results_none rfl _ _ _) rfl ?_
      exact ⟨rfl, HFIN⟩
end
end Go.Proofs.YtlpmmmmniojflaaGreatDoor
/- What is kept as a value; what is kept anew. -/
set_option linter.unusedVariables false
set_option linter.unusedSimpArgs false
namespace Go.Proofs.YtlpmmmmniojflaaGreatDoor
open Go.RowKit
theorem SR.lv {w : World} {x : Nat} {fs : Nat → ByteArray} {bd : Nat → Int × Int} {k : Kp} (h : SR w x fs bd k) : ∃ LL : List Value, LL.length = 240 ∧ w.rangeAt x 144 LL ∧ LV w LL.toArray k.last := by
  obtain ⟨cs, hb, hs⟩ := h.blk
  have hcell : ∀ j, w.cell? ⟨x, j, none⟩ = cs[j]? := fun j => cell_of_row w x j cs 104 (0, 0) hb
  have hg : ∀ i, i < 240 → ((cs.toList.drop 144).take 240)[i]? = cs[144 + i]? := fun i hi => by
    rw [List.getElem?_take_of_lt hi, List.getElem?_drop, Array.getElem?_toList]
  have hl : ((cs.toList.drop 144).take 240).length = 240 := by rw [List.length_take, List.length_drop, Array.length_toList, hs]; omega
  have e : ∀ c t, c < 48 → t < 5 → ((cs.toList.drop 144).take 240).toArray[c * 5 + t]? = w.cell? ⟨x, 144 + c * 5 + t, none⟩ := fun c t hc ht => by
    rw [List.getElem?_toArray, hg _ (by omega), hcell, Nat.add_assoc]
  have hk := h.kp.last
  refine ⟨(cs.toList.drop 144).take 240, hl, fun j v hj => ?_, { size := by simpa using hl, one := ?_, f := fun c hc => ?_, rs := fun c hc => ?_, k := fun c hc => ?_, n := fun c hc => ?_, s := fun c hc => ?_ }⟩
  · have hj' : j < 240 := by have := (List.getElem?_eq_some_iff.1 hj).1; omega
    rw [hcell, ← hg j hj']; exact hj
  · refine Array.all_eq_true_iff_forall_mem.2 fun v hv => ?_
    obtain ⟨i, hi⟩ := Array.getElem?_of_mem hv
    have hl' := (Array.getElem?_eq_some_iff.1 hi).1
    have hi240 : i < 240 := by simp at hl'; omega
    have hc : i / 5 < 48 := by omega
    have ei : i = i / 5 * 5 + i % 5 := by omega
    rw [ei, e _ _ hc (by omega)] at hi
    obtain ⟨rv, r1, r2, r3⟩ := (hk _ hc).rs
    have ht : i % 5 = 0 ∨ i % 5 = 1 ∨ i % 5 = 2 ∨ i % 5 = 3 ∨ i % 5 = 4 := by omega
    rcases ht with t | t | t | t | t <;> rw [t] at hi
    · rw [Nat.add_zero, (hk _ hc).f] at hi; cases hi; rfl
    · rw [r1] at hi; cases hi; exact r2.oneCell
    · rw [(hk _ hc).k] at hi; cases hi; rfl
    · rw [(hk _ hc).n] at hi; cases hi; rfl
    · rw [(hk _ hc).s] at hi; cases hi; rfl
  · rw [show c * 5 = c * 5 + 0 from rfl, e c 0 hc (by omega)]; exact (hk c hc).f
  · obtain ⟨rv, r1, r2, r3⟩ := (hk c hc).rs
    exact ⟨rv, by rw [e c 1 hc (by omega)]; exact r1, r2⟩
  · rw [e c 2 hc (by omega)]; exact (hk c hc).k
  · rw [e c 3 hc (by omega)]; exact (hk c hc).n
  · rw [e c 4 hc (by omega)]; exact (hk c hc).s
structure LS (x b : Nat) (w1 : World) (j : Nat) (wr : World) : Prop where
  only : Only x w1 wr
  xb : ∃ cs, wr.heap[x]? = some (.cells cs 104 (0, 0)) ∧ cs.size = 755
  off : ∀ i, (i < 144 ∨ 384 ≤ i) → wr.cell? ⟨x, i, none⟩ = w1.cell? ⟨x, i, none⟩
  on : ∀ c t, c < j → t < 5 → wr.cell? ⟨x, 144 + c * 5 + t, none⟩ = w1.cell? ⟨b, T c + 11 + t, none⟩
theorem LS.start {x b : Nat} {w1 : World} (h : ∃ cs, w1.heap[x]? = some (.cells cs 104 (0, 0)) ∧ cs.size = 755) : LS x b w1 0 w1 := ⟨Only.refl _ _, h, fun _ _ => rfl, fun c t hc => absurd hc (by omega)⟩
theorem LS.below {x b j : Nat} {w1 wr w' : World} (h : LS x b w1 j wr) (hb : Below wr.heap.size wr w') : LS x b w1 j w' := by
  obtain ⟨cs, h1, h2⟩ := h.xb
  have hx := (Array.getElem?_eq_some_iff.1 h1).1
  have hc : ∀ i, w'.cell? ⟨x, i, none⟩ = wr.cell? ⟨x, i, none⟩ := fun i => hb.cell (p := ⟨x, i, none⟩) hx
  exact ⟨h.only.trans (Go.Proofs.YtlpmmmmniojflaaGreatDoor.Below.only hb x), ⟨cs, by rw [hb.block x hx]; exact h1, h2⟩, fun i hi => by rw [hc]; exact h.off i hi, fun c t hc' ht => by rw [hc]; exact h.on c t hc' ht⟩
theorem LS.set {x b j : Nat} {w1 wr : World} (h : LS x b w1 j wr) (hj : j < 48) {vs : List Value} (hl : vs.length = 5) (hv : ∀ t, t < 5 → vs[t]? = w1.cell? ⟨b, T j + 11 + t, none⟩) : LS x b w1 (j + 1) (wr.setCells x (144 + j * 5) vs) := by
  obtain ⟨cs, h1, h2⟩ := h.xb
  obtain ⟨cs', e1, e2, e3, e4⟩ := setCells_row vs (144 + j * 5) wr cs h1
  have hc : ∀ i, (wr.setCells x (144 + j * 5) vs).cell? ⟨x, i, none⟩ = cs'[i]? := fun i => cell_of_row _ x i cs' 104 (0, 0) e1
  have hc0 : ∀ i, wr.cell? ⟨x, i, none⟩ = cs[i]? := fun i => cell_of_row _ x i cs 104 (0, 0) h1
  refine ⟨h.only.trans e4, ⟨cs', e1, by rw [e2, h2]⟩, fun i hi => ?_, fun c t hc' ht => ?_⟩
  · rw [hc, e3, if_neg (by omega), ← hc0]; exact h.off i hi
  · rw [hc, e3]
    by_cases e : c = j
    · subst e
      rw [if_pos ⟨by omega, by omega, by omega⟩, ← hv t ht]
      congr 1; omega
    · rw [if_neg (by omega), ← hc0]; exact h.on c t (by omega) ht
theorem sheet_done {W w1 wr : World} {own1 : Nat → Nat} {x b : Nat} {fs : Nat → ByteArray} {bd : Nat → Int × Int} {k : Kp} {r : Rn} {ch : List Nat} (h : SR W x fs bd k) (hb : W.heap.size ≤ b) (hR : RR w1 own1 b x r) (hS : RSC W own0 w1 own1 b x) (hC : ChA w1 x ch) (h3 : ∀ c, c < 48 → (r.tk c).st = 3) (hL : LS x b w1 48 wr) :
    SR wr x fs bd ⟨fun c => (r.tk c).an, ch, r.store⟩ ∧ Only x W wr := by
  have hO : Only x W w1 := ⟨hS.os, hS.tape, hS.output, hS.size, fun g hg hne => hS.blk g hg rfl (by omega) hne⟩
  have ho : ∀ i, i < 144 → wr.cell? ⟨x, i, none⟩ = W.cell? ⟨x, i, none⟩ := fun i hi => by rw [hL.off i (.inl hi), hS.xs i (by omega)]
  have hrow : ∀ (g : Nat) (cur : Array Value), w1.heap[g]? = some (Obj.cells cur 274 (0, 0)) → wr.heap[g]? = w1.heap[g]? := fun g cur hg => hL.only.block g (Array.getElem?_eq_some_iff.1 hg).1 (fun e => by
    obtain ⟨cs, q1, _⟩ := hR.xblk
    have e : g = x := e
    rw [e, q1] at hg; cases hg)
  refine ⟨{ blk := hL.xb, fs := fun c hc => by rw [ho c (by omega)]; exact h.fs c hc, bdr := h.bdr, bnd := fun c hc => ⟨by rw [ho _ (by omega)]; exact (h.bnd c hc).1, by rw [ho _ (by omega)]; exact (h.bnd c hc).2⟩, kp := ?_ }, hO.trans hL.only⟩
  refine { last := fun c hc => ?_, chl := hC.1, ch := fun j c hj => ?_, places := ?_, size := ?_, next := ?_, stl := hR.sto.len, kept := fun j a hj => ?_ }
  · exact ((hR.tk c hc).ans (h3 c hc)).kept (b' := x) (o' := 144 + c * 5) (fun t ht => hL.on c t hc ht) fun g cur hg _ => ⟨hrow g cur hg, trivial⟩
  · have := (List.getElem?_eq_some_iff.1 hj).1
    rw [hL.off _ (.inr (by omega))]; exact hC.2 j c hj
  · rw [hL.off _ (.inr (by omega))]; exact hR.sto.places
  · rw [hL.off _ (.inr (by omega))]; exact hR.sto.size
  · rw [hL.off _ (.inr (by omega))]; exact hR.sto.next
  · exact (hR.sto.kept j a hj).kept (b' := x) (o' := 435 + j * 5) (fun t ht => hL.off _ (.inr (by omega))) fun g cur hg _ => ⟨hrow g cur hg, trivial⟩
end Go.Proofs.YtlpmmmmniojflaaGreatDoor
