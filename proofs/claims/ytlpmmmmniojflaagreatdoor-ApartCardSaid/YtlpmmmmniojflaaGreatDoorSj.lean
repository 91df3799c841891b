/- A working out, walked: run. -/
import Derived.Test.YtlpmmmmniojflaaGreatDoorSi
import Derived.Deep.CutRange
set_option linter.unusedVariables false
set_option linter.unusedSimpArgs false
namespace Go.Proofs.YtlpmmmmniojflaaGreatDoor
open Go.RowKit
theorem info274 : (Tryz.prog.info? 274).map (fun i => (i.zero, i.size, i.bytes)) = some (some (.agg #[.int .i64 0, .bool false, .int .i64 0, .int .i64 0, .string ⟨#[]⟩]), 5, 48) := by kernel_rfl
set_option maxRecDepth 100000 in
set_option maxHeartbeats 8000000 in
theorem runC_w (E : Env) (hE : Hid (RightW E)) (w : World) (own : Nat → Nat) (b x : Nat) (r : Rn) (c k : Nat) (hc : c < 48) (h : Hid (RunS E w own b x c (runP E c (k + 1) r) k w)) :
    Calls Tryz.prog 145 #[.pointer (some ⟨b, 0, none⟩), .int .i64 c] w fun e w' => e = .returned (.tuple #[]) ∧ Hid (RS w own b x w' (runP E c (k + 1) r)) := by
  obtain ⟨F, hF⟩ : ∃ F, runP E c (k + 1) r = F := ⟨_, rfl⟩
  rw [hF] at h ⊢
  have hci : (c : Int) < 48 := by omega
  have hc0 : 0 ≤ (c : Int) := by omega
  have HC : Hid (c < 48) := hc
  clear hF hc
  go_enter Tryz.func145, Tryz.ntmps145
  go_wp2_with fail
  go_loopg [5] k (fun j _ wr => Hid (RunS E w own b x c F j wr))
  case atStart => exact h
  case round =>
    obtain ⟨own1, r1, R1, S1, W1, st1, s1, A1, V1, SW1, L1, F1⟩ := hrel.out
    have HR1 : Hid _ := R1
    have HS1 : Hid _ := S1
    have HW1 : Hid _ := W1
    have HST : Hid _ := st1
    have HS2 : Hid _ := s1
    have HA1 : Hid _ := A1
    have HV1 : Hid _ := V1
    have HSW : Hid _ := SW1
    have HL1 : Hid _ := L1
    have HF1 : Hid _ := F1
    clear h hrel R1 S1 W1 st1 s1 A1 V1 SW1 L1 F1
    go_wp2_with fail
    refine (run175 wr own1 b x c r1 HC.out HR1.out HS2.out).mono ?_
    rintro e w2 (⟨rfl, nd, h2⟩ | ⟨rfl, h2⟩)
    · obtain ⟨own2, m, R2, S2, C2, M2, D2, N2⟩ := h2.out
      have HR2 : Hid _ := R2
      have HS3 : Hid _ := HS1.out.trans S2
      have HC2 : Hid _ := C2
      have HM2 : Hid _ := M2
      have HD2 : Hid _ := D2
      have HN2 : Hid _ := N2
      have HMR : Hid (MR w2 own2 b (290 + c * 16 + 4) (cV c) (cG c) m 1 nd) := by rw [T_addr]; exact C2.mr
      clear R2 S2 C2 M2 D2 N2 h2 HR1 HS1
      go_wp2_with fail
      refine (need_w w2 own2 b _ _ _ m 1 nd HMR).mono ?_
      rintro e w3 ⟨rfl, hb3⟩
      have hlt := HR2.out.lt
      have HBA : Hid (Below w2.heap.size w2 (w3.alloc (Obj.cells #[Value.int IntKind.i64 ↑nd.c, Value.bool nd.a] 178))) := hb3.trans ((bl1 w3 _).mono hb3.size)
      have HNB : Hid ((w3.alloc (Obj.cells #[Value.int IntKind.i64 ↑nd.c, Value.bool nd.a] 178)).heap[w3.heap.size]? = some (Obj.cells #[Value.int IntKind.i64 ↑nd.c, Value.bool nd.a] 178)) := rnew w3 _ _
      obtain ⟨RA, SA⟩ := HR2.out.below (own' := own2) HBA.out (fun _ _ => rfl)
      have HRA : Hid _ := RA
      have HSA : Hid _ := HS3.out.trans SA
      obtain ⟨cs2, kb2, _⟩ := HR2.out.blk
      have HCA : Hid _ := HC2.out.below kb2 HBA.out (own' := own2) (fun _ _ => rfl)
      clear RA SA hb3 HMR kb2
      go_wp2_with fail
      generalize w3.alloc (Obj.cells #[Value.int IntKind.i64 ↑nd.c, Value.bool nd.a] 178) = WA at *
      cases hL : (look E r1 c nd.c).2 with
      | none =>
        refine (look_w E hE _ _ b x r1 c nd.c HC.out HN2.out HRA HW1 (HST.out _)).mono ?_
        rintro e w4 ⟨rfl, h4⟩
        have HFF : Hid (F = (look E r1 c nd.c).1) := by
          unfold Hid
          rw [← HF1.out]
          exact runP_wait HD2.out (Prod.ext rfl hL)
        have HR4 : Hid (RS w own b x w4 F) := by rw [HFF.out]; exact RS.comp HSA.out h4.out
        rw [hL]
        clear hL h4 HFF
        unfold vV vN
        dsimp only [Option.getD, Option.isSome]
        go_wp2_with fail
        refine bodyPost_ret (results_none rfl _ _ _) rfl ?_
        exact ⟨rfl, HR4.out.then (bl1 _ _)⟩
      | some v =>
        refine (look_b E hE _ _ b x r1 c nd.c v HC.out HN2.out HRA HW1 (HST.out _) hL).mono ?_
        rintro e w4 ⟨rfl, hb4⟩
        have HLK : Hid (look E r1 c nd.c = (r1, some v)) := look_some hL
        have HVO : Hid (v.eqB cyc = false → OKV v) := look_val HV1.out hL
        clear hL
        have HB4 : Hid (Below WA.heap.size WA (w4.alloc (Obj.cells #[.int .i64 v.k, .int .i64 v.n, .string v.s] 52))) := hb4.trans ((bl1 w4 _).mono hb4.size)
        unfold vV
        go_upto_region 5 with fail
        have HNB4 : Hid ((w4.alloc (Obj.cells #[.int .i64 v.k, .int .i64 v.n, .string v.s] 52)).heap[w3.heap.size]? = some (Obj.cells #[Value.int IntKind.i64 ↑nd.c, Value.bool nd.a] 178)) := by
          unfold Hid; rw [HB4.out.block _ (Array.getElem?_eq_some_iff.1 HNB.out).1]; exact HNB.out
        have HVB4 : Hid ((w4.alloc (Obj.cells #[.int .i64 v.k, .int .i64 v.n, .string v.s] 52)).heap[w4.heap.size]? = some (Obj.cells #[.int .i64 v.k, .int .i64 v.n, .string v.s] 52)) := rnew w4 _ _
        clear hb4
        generalize w4.alloc (Obj.cells #[.int .i64 v.k, .int .i64 v.n, .string v.s] 52) = W4 at *
        clear HNB
        generalize w3.heap.size = bn at *
        generalize w4.heap.size = bv at *
        have HKY : Hid (Cmps v cyc (v.eqB cyc)) := cmps v cyc
        obtain ⟨B, hB⟩ : ∃ B, v.eqB cyc = B := ⟨_, rfl⟩
        rw [hB] at HVO HKY
        have HEQ : Hid (v.eqB cyc = B) := hB
        clear hB
        go_cut [34] from 13 to 66 (fun s wx => s = .bool B ∧ Hid (Below W4.heap.size W4 wx))
        case first =>
          have p0 : W4.cell? ⟨bv, 0, none⟩ = some (.int .i64 v.k) := cell_of_row W4 bv 0 _ 52 (0, 0) HVB4.out
          have p1 : W4.cell? ⟨bv, 1, none⟩ = some (.int .i64 v.n) := cell_of_row W4 bv 1 _ 52 (0, 0) HVB4.out
          have p2 : W4.cell? ⟨bv, 2, none⟩ = some (.string v.s) := cell_of_row W4 bv 2 _ 52 (0, 0) HVB4.out
          rcases HKY.out with ⟨rfl, h1, h2, h3⟩ | ⟨rfl, h1⟩ | ⟨rfl, h1, h2⟩ | ⟨rfl, h1, h2, h3⟩
          all_goals
            go_region_with ((go_at_call 177; refine (cycle_w _).mono ?_; unfold vV; rintro e w6 ⟨rfl, hb6⟩; have HB6 : Hid (Below W4.heap.size W4 w6) := ((Below.refl _ _).drew).trans hb6; have q0 : w6.cell? ⟨bv, 0, none⟩ = some (.int .i64 v.k) := (by rw [HB6.out.cell (p := ⟨bv, 0, none⟩) (Array.getElem?_eq_some_iff.1 HVB4.out).1]; exact p0); have q1 : w6.cell? ⟨bv, 1, none⟩ = some (.int .i64 v.n) := (by rw [HB6.out.cell (p := ⟨bv, 1, none⟩) (Array.getElem?_eq_some_iff.1 HVB4.out).1]; exact p1); have q2 : w6.cell? ⟨bv, 2, none⟩ = some (.string v.s) := (by rw [HB6.out.cell (p := ⟨bv, 2, none⟩) (Array.getElem?_eq_some_iff.1 HVB4.out).1]; exact p2); clear hb6))
          all_goals
            go_wp2_with fail
            go_meet
            exact ⟨rfl, HB6⟩
        case rest =>
          obtain ⟨rfl, HB5⟩ := hcut
          have hBwc : Below WA.heap.size WA wc := HB4.out.trans (HB5.out.mono HB4.out.size)
          obtain ⟨RC, SC⟩ := HRA.out.below (own' := own2) hBwc (fun _ _ => rfl)
          obtain ⟨csA, kbA, _⟩ := HRA.out.blk
          have HRC : Hid _ := RC
          have HSC : Hid _ := HSA.out.trans SC
          have HCC : Hid _ := HCA.out.below kbA hBwc (own' := own2) (fun _ _ => rfl)
          have HNB : Hid (wc.heap[bn]? = some (Obj.cells #[Value.int IntKind.i64 ↑nd.c, Value.bool nd.a] 178)) := by
            unfold Hid; rw [HB5.out.block _ (Array.getElem?_eq_some_iff.1 HNB4.out).1]; exact HNB4.out
          have HVB : Hid (wc.heap[bv]? = some (Obj.cells #[.int .i64 v.k, .int .i64 v.n, .string v.s] 52)) := by
            unfold Hid; rw [HB5.out.block _ (Array.getElem?_eq_some_iff.1 HVB4.out).1]; exact HVB4.out
          have p0 : wc.cell? ⟨bv, 0, none⟩ = some (.int .i64 v.k) := cell_of_row wc bv 0 _ 52 (0, 0) HVB.out
          have p1 : wc.cell? ⟨bv, 1, none⟩ = some (.int .i64 v.n) := cell_of_row wc bv 1 _ 52 (0, 0) HVB.out
          have p2 : wc.cell? ⟨bv, 2, none⟩ = some (.string v.s) := cell_of_row wc bv 2 _ 52 (0, 0) HVB.out
          have hltc := RC.lt
          clear RC SC kbA hBwc HB5 HB4 HNB4 HVB4 HRA HSA HCA HR2 HS3 HC2 HBA hlt W4 WA w2 wr HKY
          cases B with
          | true =>
            have HFF : Hid (F = settle r1 c ⟨r1.fs c, [], v⟩) := by unfold Hid; rw [← HF1.out]; exact runP_cyc HD2.out HLK.out HEQ.out
            have HAV : Hid (ansV ⟨r1.fs c, [], v⟩ (.slice none 0 0) = .agg #[.string (r1.fs c), .slice none 0 0, .int .i64 v.k, .int .i64 v.n, .string v.s]) := rfl
            have hfs := HRC.out.fs c HC.out
            have HRD : Hid (RR wc.drew own2 b x r1 ∧ RStep wc own2 wc.drew own2 b x) := HRC.out.below (Below.refl _ _).drew (fun _ _ => rfl)
            go_wp2_with fail
            go_region_law ((go_simp; go_at_call 113; rw [← HAV.out]; refine (settle_w wc.drew own2 b x r1 c ⟨r1.fs c, [], v⟩ (.slice none 0 0) HC.out HRD.out.1 (slc_nil _ _ _) (fun g hg => by cases hg)).mono ?_; rintro e w6 ⟨rfl, h6⟩))
            all_goals
              have HFIN : Hid (RS w own b x w6 F) := by rw [HFF.out]; exact RS.comp (HSC.out.trans HRD.out.2) h6.out
              clear h6 HRD HRC p0 p1 p2 hfs
              go_wp2_with fail
              refine bodyPost_ret (results_none rfl _ _ _) rfl ?_
              exact ⟨rfl, HFIN⟩
          | false =>
            have n0 : wc.cell? ⟨bn, 0, none⟩ = some (.int .i64 nd.c) := cell_of_row wc bn 0 _ 178 (0, 0) HNB.out
            have n1 : wc.cell? ⟨bn, 1, none⟩ = some (.bool nd.a) := cell_of_row wc bn 1 _ 178 (0, 0) HNB.out
            go_upto_region 7 with fail
            go_cut [58] from 13 to 66 (fun _ wx => Hid (∃ own5, RE wx own5 b x r1 c ∧ RStep w own wx own5 b x ∧ RunC wx own5 b c (r1.tk c).wt (r1.tk c).kn (r1.tk c).held { (r1.tk c).an with rs := (r1.tk c).an.rs ++ [⟨nd, see nd v⟩] } m 1 nd) ∧ Hid (wx.heap[bv]? = some (Obj.cells #[.int .i64 v.k, .int .i64 v.n, .string v.s] 52)))
            case first =>
              obtain ⟨i0, hi, hz0, hz1, hz2⟩ := info_parts info274
              obtain ⟨rv, q1, q2, q3⟩ := HCC.out.ans.rs
              have e12 : T c + 11 + 1 = 290 + c * 16 + 11 + 1 := by unfold T; omega
              rw [e12] at q1
              have HQS : Hid (SlC wc own2 b (cR c) 274 5 rv (r1.tk c).an.rs.length ((r1.tk c).an.rs.flatMap rdC)) := ⟨q2, q3⟩
              have fz := HRC.out.frozen (290 + c * 16 + 11 + 1)
              have hne : Hid (some b ≠ rv.ownBlock) := fun e => (q3 b e.symm).2 rfl
              have hnv : Hid (some bv ≠ rv.ownBlock) := by
                intro e
                rcases q2.2 with ⟨rfl, _⟩ | ⟨g', o, cap, cur, rfl, hgb, _⟩
                · cases e
                · cases e
                  have := HVB.out
                  rw [hgb] at this
                  cases this
              have HVL : Hid (bv < wc.heap.size) := (Array.getElem?_eq_some_iff.1 HVB.out).1
              have HNL : Hid (bn < wc.heap.size) := (Array.getElem?_eq_some_iff.1 HNB.out).1
              have HVb : Hid (bv ≠ b) := by
                intro e
                obtain ⟨cs, hb, _⟩ := HRC.out.blk
                have := HVB.out
                rw [e, hb] at this
                cases this
              have HS : Hid (Gives 178 #[.agg #[.int .i64 nd.c, .bool nd.a], vV v] (vV (see nd v))) := see_w nd v
              obtain ⟨sv, hsv⟩ : ∃ sv, see nd v = sv := ⟨_, rfl⟩
              rw [hsv] at HS
              have HSV : Hid (see nd v = sv) := hsv
              have e12' : T c + 12 = 290 + c * 16 + 11 + 1 := by unfold T; omega
              have HCL : Hid (∀ (w6 w1 : World) (v1 : Value), Below wc.heap.size wc w6 → (w6.alloc (Obj.cells #[.int .i64 nd.c, .bool nd.a, .int .i64 sv.k, .int .i64 sv.n, .string sv.s] 274)).grownBy w1 rv.ownBlock → ((v1.ownBlock = rv.ownBlock ∧ rv.ownBlock ≠ none) ∨ (v1.ownBlock = some (w6.alloc (Obj.cells #[.int .i64 nd.c, .bool nd.a, .int .i64 sv.k, .int .i64 sv.n, .string sv.s] 274)).heap.size ∧ (w6.alloc (Obj.cells #[.int .i64 nd.c, .bool nd.a, .int .i64 sv.k, .int .i64 sv.n, .string sv.s] 274)).grownBy w1 none)) → Slc w1 274 5 v1 ((r1.tk c).an.rs.length + 1) ((r1.tk c).an.rs.flatMap rdC ++ rdC ⟨nd, sv⟩) →
                  (Hid (∃ own5, RE (w1.setCell ⟨b, 290 + c * 16 + 11 + 1, none⟩ v1) own5 b x r1 c ∧ RStep w own (w1.setCell ⟨b, 290 + c * 16 + 11 + 1, none⟩ v1) own5 b x ∧ RunC (w1.setCell ⟨b, 290 + c * 16 + 11 + 1, none⟩ v1) own5 b c (r1.tk c).wt (r1.tk c).kn (r1.tk c).held { (r1.tk c).an with rs := (r1.tk c).an.rs ++ [⟨nd, see nd v⟩] } m 1 nd) ∧ Hid ((w1.setCell ⟨b, 290 + c * 16 + 11 + 1, none⟩ v1).heap[bv]? = some (Obj.cells #[.int .i64 v.k, .int .i64 v.n, .string v.s] 52)))) := by
                intro w6 w1 v1 hb6 hgrow hob hsl
                have hB : Below wc.heap.size wc (w6.alloc (Obj.cells #[.int .i64 nd.c, .bool nd.a, .int .i64 sv.k, .int .i64 sv.n, .string sv.s] 274)) := hb6.alloc hb6.size _
                obtain ⟨own5, r5, s5, c5⟩ := reads_close (y := ⟨nd, sv⟩) (HRC.out.re c) HC.out HCC.out HQS.out hB hgrow hob hsl
                rw [e12'] at r5 s5 c5
                rw [← HSV.out] at c5
                refine ⟨⟨own5, r5, HSC.out.trans s5, c5⟩, ?_⟩
                unfold Hid
                rw [Below.heap_setCell _ _ _ _ HVb.out, hgrow.block bv (Nat.lt_of_lt_of_le HVL.out hB.size) hnv.out, hB.block bv HVL.out]
                exact HVB.out
              clear hsv e12 e12' q2 q3 HVb HVL HVB HNB HRC HSC HCC hnv HEQ HLK HVO HD2 HN2 HM2 HSV HF1 HSW HV1 HA1 HS2 HST HW1 hE
              unfold vV at HS
              go_region_law (first
                | (refine step_append_sl (by rfl) _ _ _ (by rfl) 274 i0 _ 5 48 Tryz.underlying93 hi hz0 hz1 hz2 rfl rv (r1.tk c).an.rs.length ((r1.tk c).an.rs.flatMap rdC) (by rfl) (HSl.out _) ⟨w6.heap.size, 0, none⟩ 1 1 (rdC ⟨nd, sv⟩) (by rfl) (by decide) (by rfl) (World.news_of_block (cs := #[.int .i64 nd.c, .bool nd.a, .int .i64 sv.k, .int .i64 sv.n, .string sv.s]) (t := 274) (fr := (0, 0)) (by exact rnew w6 _ _)) (by simp [rdC, Value.oneCell']) (by have := HL1.out; unfold maxLen; omega) (by have := HL1.out; omega) ?_; intro v1 w1 hsl hgrow hob; obtain ⟨z1, cp1, hz1'⟩ := Slc.len hsl; subst hz1'; have d1 := grown_cell hgrow (q := b) (j := 290 + c * 16 + 11 + 1) (v := rv) (hv3 _) hne.out; have f1 := grown_frozen hgrow (q := b) (j := 290 + c * 16 + 11 + 1) (v := rv) (hv3 _) (hfz3 _) hne.out)
                | (go_simp; go_at_call 178; refine (HS.out _).mono ?_; rintro e w6 ⟨rfl, hb6⟩; have HB6 : Hid (Below wc.heap.size wc w6) := ((Below.refl _ _).drew).trans hb6; have hv2 : w6.cell? ⟨b, 290 + c * 16 + 11 + 1, none⟩ = some rv := (by rw [HB6.out.cell (p := ⟨b, 290 + c * 16 + 11 + 1, none⟩) hltc]; exact q1); have hfz2 : w6.frozen? ⟨b, 290 + c * 16 + 11 + 1, none⟩ = false := (by rw [← fz]; exact World.frozen?_of_block (w := wc) (HB6.out.block b hltc)); have hlt2 : b < w6.heap.size := Nat.lt_of_lt_of_le hltc HB6.out.size; have hv3 := al hv2; have hfz3 := afz hfz2 hlt2; have m0 : w6.cell? ⟨bn, 0, none⟩ = some (.int .i64 nd.c) := (by rw [HB6.out.cell (p := ⟨bn, 0, none⟩) HNL.out]; exact n0); have m1 : w6.cell? ⟨bn, 1, none⟩ = some (.bool nd.a) := (by rw [HB6.out.cell (p := ⟨bn, 1, none⟩) HNL.out]; exact n1); have HSl : Hid (∀ z, Slc (w6.alloc z) 274 5 rv (r1.tk c).an.rs.length ((r1.tk c).an.rs.flatMap rdC)) := fun z => HQS.out.sl.kept (fun g hg => by rw [Below.heap_alloc _ _ _ (Nat.lt_of_lt_of_le (HQS.out.sl.lt g hg) HB6.out.size), HB6.out.block g (HQS.out.sl.lt g hg)]); clear hb6))
              all_goals
                go_wp2_with fail
                go_meet
                exact HCL.out _ _ _ HB6.out hgrow hob hsl
            case rest =>
              obtain ⟨h5, HVB5⟩ := hcut
              obtain ⟨own5, R5, S5, C5⟩ := h5.out
              have q0 : wc.cell? ⟨bv, 0, none⟩ = some (.int .i64 v.k) := cell_of_row wc bv 0 _ 52 (0, 0) HVB5.out
              have q1 : wc.cell? ⟨bv, 1, none⟩ = some (.int .i64 v.n) := cell_of_row wc bv 1 _ 52 (0, 0) HVB5.out
              have q2 : wc.cell? ⟨bv, 2, none⟩ = some (.string v.s) := cell_of_row wc bv 2 _ 52 (0, 0) HVB5.out
              have HMR5 : Hid (MR wc.drew own5 b (290 + c * 16 + 4) (cV c) (cG c) m 1 nd) := by rw [T_addr]; exact C5.mr.below (Below.refl _ _).drew (fun _ _ => rfl)
              have HM5 : Hid (m.vals.length ≤ 100000) := by
                have h1 := C5.mi.small
                have h2 := C5.mi.at'
                have h3 := C5.mi.len
                unfold Hid; omega
              have HR5 : Hid _ := R5
              have HS5 : Hid _ := S5
              have HC5 : Hid _ := C5
              have HCols : Hid (Cols (cV c) (cG c)) := cols_c c
              have HOV : Hid (OKV v) := HVO.out rfl
              obtain ⟨_, k', hk', hAk⟩ := ActN.next HA1.out HD2.out
              have HKP : Hid (gk = k' + 1) := hk'
              have HAK : Hid _ := hAk
              clear R5 S5 C5 h5 hAk hk' n0 n1 p0 p1 p2 HNB HVB HRC HSC HCC HVO
              go_wp2_with fail
              go_region_law ((go_simp; go_at_call 179; refine (give_w wc.drew own5 b (290 + c * 16 + 4) (cV c) (cG c) m 1 nd v HCols HMR5 HM5).mono ?_; rintro e w7 ⟨rfl, h7⟩))
              all_goals
                have HFIN : Hid (RunS E w own b x c F k' w7) := by
                  have hvo := HOV.out
                  have h7' := h7.out
                  rw [T_addr] at h7'
                  obtain ⟨cs5, kb5, ks5⟩ := HR5.out.blk
                  obtain ⟨RD, SD⟩ := HR5.out.below (own' := own5) HC.out (Below.refl wc.heap.size wc).drew (fun _ _ => rfl)
                  have CD := HC5.out.below kb5 (own' := own5) (Below.refl wc.heap.size wc).drew (fun _ _ => rfl)
                  obtain ⟨hM0, hd0, hn0, hl0, hk0⟩ : (1 = 1 ∧ (r1.tk c).d [] = .inr nd ∧ nd.c < 48 ∧ m.vals.length < m.at' ∧ ∀ x, OKV x → ∃ n, Runs n (m.push x) (fun l => (r1.tk c).d (x :: l))) := by
                    rcases HM2.out with ⟨e, _⟩ | h
                    · cases e
                    · exact ⟨rfl, h.2⟩
                  obtain ⟨own6, o1, o2, o3⟩ := CD.mstep (cs := cs5) kb5 h7' (CD.mi.push hl0 (okv_see hvo))
                  obtain ⟨R6, S6⟩ := RD.chg HC.out o3 (fun k hk _ => o1 k hk)
                  obtain ⟨n, hn⟩ := hk0 _ (okv_see (nd := nd) hvo)
                  have hMW : MW (m.push (see nd v)) 0 nd (fun l => (r1.tk c).d (see nd v :: l)) := .inl ⟨rfl, n, hn⟩
                  have R7 := R6.back HC.out (o2.tr hMW)
                  have S7 := (HS5.out.trans SD).trans S6
                  have et : (⟨2, (r1.tk c).wt, (r1.tk c).kn, (r1.tk c).held, fun l => (r1.tk c).d (see nd v :: l), { (r1.tk c).an with rs := (r1.tk c).an.rs ++ [⟨nd, see nd v⟩] }⟩ : Tsk) = { r1.tk c with d := fun l => (r1.tk c).d (see nd v :: l), an := { (r1.tk c).an with rs := (r1.tk c).an.rs ++ [⟨nd, see nd v⟩] } } := by
                    rw [← HS2.out]
                  rw [et] at R7
                  refine ⟨own6, _, R7, S7, HW1.out.put _ _ rfl, stle_put HST.out _ _ (by show (r1.tk c).st ≤ 3; exact HST.out c), by rw [put_same]; exact HS2.out, by rw [put_same]; exact HAK.out _ (okv_see hvo), ?_, HSW.out, ?_, ?_⟩
                  · intro o ho
                    by_cases hoc : o = c
                    · subst hoc
                      rw [put_same] at ho
                      have : (r1.tk o).st = 3 := ho
                      rw [HS2.out] at this
                      cases this
                    · rw [put_ne _ _ _ hoc] at ho ⊢
                      exact HV1.out o ho
                  · rw [put_same]
                    have := HL1.out
                    rw [HKP.out] at this
                    show ((r1.tk c).an.rs ++ [_]).length + k' ≤ 90000
                    rw [List.length_append, List.length_singleton]
                    omega
                  · have := HF1.out
                    rw [HKP.out, runP_next HD2.out HLK.out HEQ.out] at this
                    exact this
                clear h7 HR5 HC5 HMR5 q0 q1 q2
                go_wp2_with fail
                go_roundg k'
                case rel => exact HFIN
                case measure => have := HKP.out; omega
    · obtain ⟨own2, m, nd, l, y, R2, S2, C2, M2, D2, N2⟩ := h2.out
      have HR2 : Hid _ := R2
      have HS3 : Hid _ := HS1.out.trans S2
      have HC2 : Hid _ := C2
      have HM2 : Hid _ := M2
      have HD2 : Hid _ := D2
      have HMR : Hid (MR w2 own2 b (290 + c * 16 + 4) (cV c) (cG c) m 2 nd) := by rw [T_addr]; exact C2.mr
      clear R2 S2 C2 M2 D2 N2 h2 HR1 HS1
      go_wp2_with fail
      refine (worth_w w2 own2 b _ _ _ m 2 nd l y HMR HM2).mono ?_
      rintro e w3 ⟨rfl, hb3⟩
      have HB3 : Hid _ := hb3
      have hb := HR2.out.lt
      obtain ⟨cs, k1, k2⟩ := HR2.out.blk
      have kb : w3.heap[b]? = some (.cells cs 187 (0, 0)) := by rw [hb3.block b hb]; exact k1
      have hc48 := HC.out
      have ex : ∀ j, j < 1059 → ∃ u, w3.cell? ⟨b, j, none⟩ = some u := fun j hj => ⟨_, by rw [cell_of_row _ b j cs 187 (0, 0) kb, Array.getElem?_eq_getElem (by omega)]⟩
      have fz : ∀ j, w3.frozen? ⟨b, j, none⟩ = false := fun j => by simp [World.frozen?, kb]
      obtain ⟨u1, c1⟩ := ex (290 + c * 16 + 11 + 2) (by omega)
      obtain ⟨u2, c2⟩ := ex (290 + c * 16 + 11 + 2 + 1) (by omega)
      obtain ⟨u3, c3⟩ := ex (290 + c * 16 + 11 + 2 + 2) (by omega)
      have f1 := fz (290 + c * 16 + 11 + 2)
      have f2 := fz (290 + c * 16 + 11 + 2 + 1)
      have f3 := fz (290 + c * 16 + 11 + 2 + 2)
      have HVC : Hid _ := value_close HR2.out HC.out HC2.out hb3 y
      clear ex fz k1 k2 kb hb3 hc48
      unfold vV
      go_wp2_with fail
      have e13 : T c + 13 = 290 + c * 16 + 11 + 2 := by unfold T; omega
      have e14 : T c + 14 = 290 + c * 16 + 11 + 2 + 1 := by unfold T; omega
      have e15 : T c + 15 = 290 + c * 16 + 11 + 2 + 2 := by unfold T; omega
      rw [e13, e14, e15] at HVC
      generalize ((w3.setCell ⟨b, 290 + c * 16 + 11 + 2, none⟩ (.int .i64 y.k)).setCell ⟨b, 290 + c * 16 + 11 + 2 + 1, none⟩ (.int .i64 y.n)).setCell ⟨b, 290 + c * 16 + 11 + 2 + 2, none⟩ (.string y.s) = W3 at *
      obtain ⟨R3, S3, A3⟩ := HVC.out
      have HR3 : Hid _ := R3
      have HS4 : Hid _ := HS3.out.trans S3
      have HA3 : Hid _ := A3
      obtain ⟨rv, q1, q2, q3⟩ := A3.rs
      have HQ2 : Hid _ := q2
      have HQ3 : Hid _ := q3
      obtain ⟨ao, cp, hrv⟩ := Slc.len q2
      have q0 := A3.f
      have q4 := A3.k
      have q5 := A3.n
      have q6 := A3.s
      have qs := R3.sp
      have e11 : T c + 11 = 290 + c * 16 + 11 := by unfold T; omega
      have HAV : Hid (ansV { (r1.tk c).an with v := y } rv = .agg #[.string (r1.tk c).an.f, .slice ao (r1.tk c).an.rs.length cp, .int .i64 y.k, .int .i64 y.n, .string y.s]) := by unfold Hid ansV; rw [hrv]
      rw [hrv] at q1
      rw [e11] at q0 q1 q4 q5 q6
      dsimp only at q0 q4 q5 q6
      have q5' : W3.cell? ⟨b, 290 + c * 16 + 11 + 2 + 1, none⟩ = some (.int .i64 y.n) := q5
      have q6' : W3.cell? ⟨b, 290 + c * 16 + 11 + 2 + 2, none⟩ = some (.string y.s) := q6
      clear hrv q2 q3 A3 R3 S3 HVC e13 e14 e15 e11 c1 c2 c3 f1 f2 f3 u1 u2 u3 hb HB3 HR2 HS3 HC2 HMR
      have HRD : Hid (RE W3.drew (zc own2 c) b x r1 c ∧ RStep W3 (zc own2 c) W3.drew (zc own2 c) b x) := HR3.out.below HC.out (Below.refl _ _).drew (fun _ _ => rfl)
      have HQD : Hid (RdSl W3.drew rv ({ (r1.tk c).an with v := y } : Ans).rs) := Slc.kept HQ2.out (fun _ _ => rfl)
      go_region_law ((go_simp; go_at_call 181; rw [← HAV.out]; refine (addS_w _ (zc own2 c) b x c r1 { (r1.tk c).an with v := y } rv HC.out HRD.out.1 HSW.out HQD.out HQ3.out).mono ?_; rintro e w4 ⟨rfl, h4⟩))
      all_goals
        obtain ⟨own4, R4, S4, O4, B4⟩ := h4.out
        have hbx : b ≠ x := fun e => R4.xb e.symm
        have cc : ∀ j, w4.cell? ⟨b, j, none⟩ = W3.cell? ⟨b, j, none⟩ := fun j => World.cell?_of_block (w := W3) (B4 b HR3.out.lt hbx)
        have q0 := q0
        rw [← cc] at q0 q1 q4 q5 q6 q5' q6'
        have HR4 : Hid _ := R4
        have HS5 : Hid _ := (HS4.out.trans HRD.out.2).trans S4
        have HQ4 : Hid (RdSl w4 rv ({ (r1.tk c).an with v := y } : Ans).rs) := Slc.kept HQ2.out (fun g hg => B4 g (HQ2.out.lt g hg) (by
          intro e
          rcases HQ2.out.2 with ⟨rfl, _⟩ | ⟨g', o, cap, cur, rfl, hgb, _⟩
          · cases hg
          · cases hg
            obtain ⟨xcs, hx, _⟩ := HR3.out.xblk
            have e : g' = x := e
            rw [e, hx] at hgb
            cases hgb))
        have HQ5 : Hid (∀ g, rv.ownBlock = some g → (own4 g = 0 ∨ own4 g = cR c)) := fun g hg => .inl (by rw [O4 g (HQ2.out.lt g hg)]; exact HQ3.out g hg)
        have HFF : Hid (F = settle { r1 with store := r1.store.add { (r1.tk c).an with v := y } } c { (r1.tk c).an with v := y }) := by
          unfold Hid; rw [← HF1.out]; exact runP_done HD2.out
        clear R4 S4 O4 B4 hbx cc h4 HRD HQD HR3 HA3 HQ2 HQ3 qs HS4
        go_wp2_with fail
        rw [← HAV.out]
        refine (settle_we w4 own4 b x _ c { (r1.tk c).an with v := y } rv HC.out HR4 HQ4 HQ5).mono ?_
        rintro e w5 ⟨rfl, h5⟩
        have HFIN : Hid (RS w own b x w5 F) := by rw [HFF.out]; exact RS.comp HS5.out h5.out
        clear h5 HR4 HQ4 HQ5 q0 q1 q4 q5 q6 q5' q6'
        go_wp2_with fail
        refine bodyPost_end (results_none rfl _ _ _) rfl ?_
        exact ⟨rfl, HFIN⟩
end Go.Proofs.YtlpmmmmniojflaaGreatDoor
